/-
  utf.Place: the contract: the line and the column of a place, for every text and every number.
-/
import Derived.Test.YtmcjjkjolbpneaaUtfIter
import Derived.RegionTactic
import Derived.ChangeAlike
import Derived.IntWalk
namespace Go.Proofs.Ytmcjjkjolbpneaa.utf
open Go.RowKit Go.Shelf
attribute [local go_sem] Oper.semAt_some

/-- A block of cells, whole. -/
def Blk (W : World) (B : Nat) (t : TypeId) (vs : Array Value) : Prop := W.heap[B]? = some (.cells vs t (0, 0))
theorem Blk.lt {W : World} {B : Nat} {t : TypeId} {v : Array Value} (h : Blk W B t v) : B < W.heap.size := (Array.getElem?_eq_some_iff.1 h).1
theorem Blk.cell {W : World} {B : Nat} {t : TypeId} {v : Array Value} (h : Blk W B t v) (i : Nat) : W.cell? ⟨B, i, none⟩ = v[i]? := by simp [World.cell?, show W.heap[B]? = _ from h]
theorem Blk.new (W : World) (t : TypeId) (v : Array Value) : Blk (W.alloc (.cells v t)) W.heap.size t v := World.alloc_heap_new W _
theorem Blk.kept {W W' : World} {row : Option Nat} {B : Nat} {t : TypeId} {v : Array Value} (h : Blk W B t v) (hg : W.grownBy W' row) (hne : some B ≠ row) : Blk W' B t v := (hg.block B h.lt hne).trans h
theorem Blk.alloc {W : World} {B : Nat} {t : TypeId} {v : Array Value} (h : Blk W B t v) (o : Obj) : Blk (W.alloc o) B t v := h.kept (World.grownBy_alloc W o none) (by simp)
theorem blk_own {β : Type} (B : Nat) (t : TypeId) (f : β → Array Value) : Own (fun s W => Blk W B t (f s)) := fun s X Y row hs hg hrow =>
  hs.kept hg (fun e' => by obtain ⟨o, ho, hc⟩ := hrow B e'.symm; rw [show X.heap[B]? = _ from hs] at ho; cases ho; cases hc)
theorem Blk.below {W W' : World} {n B : Nat} {t : TypeId} {v : Array Value} (h : Blk W B t v) (hb : Below n W W') (hn : B < n) : Blk W' B t v := (hb.block B hn).trans h

abbrev place3 (r : Int × Int × Bool) : Value := .tuple #[.int .i64 r.1, .int .i64 r.2.1, .bool r.2.2]

/-- Between two rounds. -/
def PI (w : World) (s : ByteArray) (at' : Int) (pre : List (Nat × Nat × Nat)) (W : World) : Prop :=
  ((((((Boxed W w.heap.size 3 (.int .i64 at') ∧ Boxed W (w.heap.size + 1) 3 (.int .i64 0)) ∧ Boxed W (w.heap.size + 1 + 1) 3 (.int .i64 0)) ∧ Boxed W (w.heap.size + 1 + 1 + 1) 4 (.bool false)) ∧ Boxed W (w.heap.size + 1 + 1 + 1 + 1) 9 (.string s))) ∧ (∀ x ∈ pre, ¬ at' ≤ (x.2.2 : Int))) ∧ Below w.heap.size w W
/-- A round has left. -/
def PX (w : World) (at' : Int) (c : Code) (pre : List (Nat × Nat × Nat)) (W : World) : Prop :=
  (c = .ret ∧ ∃ ini last, pre = ini ++ [last] ∧ (∀ x ∈ ini, ¬ at' ≤ (x.2.2 : Int)) ∧ at' ≤ (last.2.2 : Int) ∧ Boxed W (w.heap.size + 1) 3 (.int .i64 (last.1 : Int)) ∧ Boxed W (w.heap.size + 1 + 1) 3 (.int .i64 (IntKind.i64.wrap (at' - (last.2.1 : Int)))) ∧ Boxed W (w.heap.size + 1 + 1 + 1) 4 (.bool true)) ∧ Below w.heap.size w W
def PA (w : World) (s : ByteArray) (at' : Int) (x : Nat × Nat × Nat) (a' : Act) (W : World) : Prop :=
  ∃ Bx, w.heap.size + 4 < Bx ∧ Blk W Bx 44 #[.int .i64 (x.2.1 : Int), .int .i64 (x.2.2 : Int)] ∧ a' = { tmps := #[.string s, .int .i64 at', undef, .pointer (some ⟨w.heap.size, 0, none⟩), .pointer (some ⟨w.heap.size + 1, 0, none⟩), .pointer (some ⟨w.heap.size + 1 + 1, 0, none⟩), .pointer (some ⟨w.heap.size + 1 + 1 + 1, 0, none⟩), .int .i64 (x.1 : Int), .pointer (some ⟨Bx, 0, none⟩), .int .i64 at', .bool false, .string s, .func (.func 28) #[] #[.pointer (some ⟨w.heap.size + 1 + 1 + 1 + 1, 0, none⟩)], .int .i64 (x.1 : Int), .agg #[.int .i64 (x.2.1 : Int), .int .i64 (x.2.2 : Int)], undef, undef, undef, undef, undef, undef, undef, undef, undef], defers := [] }
theorem PI_own (w : World) (s : ByteArray) (at' : Int) (B : Nat) (hB : w.heap.size ≤ B) : OwnFrom B (PI w s at') :=
  OwnFrom.and (OwnFrom.and (OwnFrom.and (OwnFrom.and (OwnFrom.and (OwnFrom.and (Own.from (boxed_own _ _ _) _) (Own.from (boxed_own _ _ _) _)) (Own.from (boxed_own _ _ _) _)) (Own.from (boxed_own _ _ _) _)) (Own.from (boxed_own _ _ _) _)) (ownFrom_pure _ _)) (ownFrom_below (Nat.le_refl _) hB)
theorem PX_own (w : World) (at' : Int) (c : Code) (B : Nat) (hB : w.heap.size ≤ B) : OwnFrom B (PX w at' c) :=
  OwnFrom.and (fun pre X Y row hs hg hr => by
      obtain ⟨hc, ini, last, e1, e2, e3, c1, c2, c3⟩ := hs
      exact ⟨hc, ini, last, e1, e2, e3, boxed_own _ _ (fun (_ : Unit) => _) () X Y row c1 hg (fun r e => (hr r e).2), boxed_own _ _ (fun (_ : Unit) => _) () X Y row c2 hg (fun r e => (hr r e).2), boxed_own _ _ (fun (_ : Unit) => _) () X Y row c3 hg (fun r e => (hr r e).2)⟩) (ownFrom_below (Nat.le_refl _) hB)
theorem PA_own (w : World) (s : ByteArray) (at' : Int) (x : Nat × Nat × Nat) (a' : Act) (B : Nat) : OwnFrom B (fun (_ : Unit) W => PA w s at' x a' W) :=
  fun _ X Y row hs hg hr => by obtain ⟨Bx, h1, h2, h3⟩ := hs; exact ⟨Bx, h1, blk_own Bx 44 (fun (_ : Unit) => #[.int .i64 (x.2.1 : Int), .int .i64 (x.2.2 : Int)]) () X Y row h2 hg (fun r e => (hr r e).2), h3⟩

theorem PI_go {w W : World} {s : ByteArray} {at' : Int} {pre : List (Nat × Nat × Nat)} {x : Nat × Nat × Nat} (h : PI w s at' pre W) (hle : (x.2.2 : Int) < at') : PI w s at' (pre ++ [x]) W := by
  obtain ⟨⟨hb, hp⟩, hB⟩ := h
  exact ⟨⟨hb, fun y hy => (List.mem_append.1 hy).elim (hp y) (fun e => by simp at e; subst e; omega)⟩, hB⟩

theorem Boxed.drew' {W : World} {B : Nat} {t : TypeId} {v : Value} (h : Boxed W B t v) : Boxed W.drew B t v := h

theorem PX_fin {w W : World} {s : ByteArray} {at' : Int} {pre : List (Nat × Nat × Nat)} {x : Nat × Nat × Nat} (h : PI w s at' pre W) (hle : at' ≤ (x.2.2 : Int)) :
    KeepsOthers W (((W.setCell ⟨w.heap.size + 1, 0, none⟩ (.int .i64 (x.1 : Int))).setCell ⟨w.heap.size + 1 + 1, 0, none⟩ (.int .i64 (IntKind.i64.wrap (at' - (x.2.1 : Int))))).setCell ⟨w.heap.size + 1 + 1 + 1, 0, none⟩ (.bool true)).drew ∧
    PX w at' .ret (pre ++ [x]) (((W.setCell ⟨w.heap.size + 1, 0, none⟩ (.int .i64 (x.1 : Int))).setCell ⟨w.heap.size + 1 + 1, 0, none⟩ (.int .i64 (IntKind.i64.wrap (at' - (x.2.1 : Int))))).setCell ⟨w.heap.size + 1 + 1 + 1, 0, none⟩ (.bool true)).drew := by
  obtain ⟨⟨⟨⟨⟨⟨b0, b1⟩, b2⟩, b3⟩, b4⟩, hp⟩, hB⟩ := h
  refine ⟨(((KeepsOthers.setCell _ _ _).trans (KeepsOthers.setCell _ _ _)).trans (KeepsOthers.setCell _ _ _)).trans (KeepsOthers.drew _), ⟨rfl, pre, x, rfl, hp, hle, ?_, ?_, ?_⟩, ?_⟩
  · exact Boxed.drew' (((b1.set _).other (by omega) _).other (by omega) _)
  · exact Boxed.drew' (((b2.other (by omega) _).set _).other (by omega) _)
  · exact Boxed.drew' (((b3.other (by omega) _).other (by omega) _).set _)
  · exact (((hB.setCell (p := ⟨w.heap.size + 1, 0, none⟩) (by simp) _).setCell (p := ⟨w.heap.size + 1 + 1, 0, none⟩) (by simp; omega) _).setCell (p := ⟨w.heap.size + 1 + 1 + 1, 0, none⟩) (by simp; omega) _).drew

theorem place_find {l : List UInt8} {at' : Int} (h : 0 ≤ at') {ini : List (Nat × Nat × Nat)} {x : Nat × Nat × Nat} (hpre : ini ++ [x] <+: Sp.spansOf l) (hno : ∀ y ∈ ini, ¬ at' ≤ (y.2.2 : Int)) (hle : at' ≤ (x.2.2 : Int)) :
    Sp.placeF l at' = ((x.1 : Int), at' - (x.2.1 : Int), true) := by
  obtain ⟨rest, hr⟩ := hpre
  unfold Sp.placeF
  rw [if_neg (by omega), ← hr, List.append_assoc, List.find?_append, List.find?_eq_none.2 (by simpa using hno)]
  simp [hle]

theorem place_none {l : List UInt8} {at' : Int} (hno : ∀ y ∈ Sp.spansOf l, ¬ at' ≤ (y.2.2 : Int)) : Sp.placeF l at' = (0, 0, false) := by
  unfold Sp.placeF
  rw [List.find?_eq_none.2 (by simpa using hno)]
  simp

set_option maxRecDepth 100000 in
set_option maxHeartbeats 1000000 in
theorem place_neg (n : Nat) (s : ByteArray) (at' : Int) (h : at' < 0) (w : World) :
    CallsIn Fence.wide n Try.prog 12 #[.string s, .int .i64 at'] w fun e W' => e = .returned (place3 (0, 0, false)) ∧ Below w.heap.size w W' := by
  refine callsIn_of_wp_marks Try.func12 rfl trivial ?_ rfl
  simp only [Try.ntmps12, List.size_toArray, List.length_cons, List.length_nil, Nat.reduceAdd, Nat.reduceSub, Array.replicate_succ, Array.replicate_zero, List.push_toArray, List.append_toArray, List.nil_append, List.cons_append]
  gi_wp2
  refine ⟨place3 (0, 0, false), ?_, rfl, ?_⟩
  · simp [results, Try.f12, go_sem]
  · exact ((((Below.refl _ w).alloc (Nat.le_refl _) _).alloc (by simp) _).alloc (by simp; omega) _).alloc (by simp; omega) _

set_option maxRecDepth 100000 in
set_option maxHeartbeats 2000000 in
theorem place_pos (n : Nat) (hn : 3 ≤ n) (s : ByteArray) (hs : s.size ≤ 140737488351232) (at' : Int) (h : 0 ≤ at') (hw : at' ≤ 9223372036854775807) (w : World) :
    CallsIn Fence.wide n Try.prog 12 #[.string s, .int .i64 at'] w fun e W' => e = .returned (place3 (Sp.placeF s.data.toList at')) ∧ Below w.heap.size w W' := by
  have h1 : 1 ≤ n := by omega
  have hf : Fence.wide.fn 23 := trivial
  have hd : decide (at' < 0) = false := by simpa using h
  refine callsIn_of_wp_marks Try.func12 rfl trivial ?_ rfl
  simp only [Try.ntmps12, List.size_toArray, List.length_cons, List.length_nil, Nat.reduceAdd, Nat.reduceSub, Array.replicate_succ, Array.replicate_zero, List.push_toArray, List.append_toArray, List.nil_append, List.cons_append]
  gi_wp2_with (gi_at_call 23; refine (lines_calls (n - 1) _ _).mono ?_; rintro e w' ⟨rfl, rfl⟩)
  have b0 := ((((Boxed.new w 3 (.int .i64 at')).alloc (.cells #[.int .i64 0] 3)).alloc (.cells #[.int .i64 0] 3)).alloc (.cells #[.bool false] 4)).alloc (.cells #[.string s] 9)
  have b1 := (((Boxed.new (w.alloc (.cells #[.int .i64 at'] 3)) 3 (.int .i64 0)).alloc (.cells #[.int .i64 0] 3)).alloc (.cells #[.bool false] 4)).alloc (.cells #[.string s] 9)
  have b2 := ((Boxed.new ((w.alloc (.cells #[.int .i64 at'] 3)).alloc (.cells #[.int .i64 0] 3)) 3 (.int .i64 0)).alloc (.cells #[.bool false] 4)).alloc (.cells #[.string s] 9)
  have b3 := (Boxed.new (((w.alloc (.cells #[.int .i64 at'] 3)).alloc (.cells #[.int .i64 0] 3)).alloc (.cells #[.int .i64 0] 3)) 4 (.bool false)).alloc (.cells #[.string s] 9)
  have b4 := Boxed.new ((((w.alloc (.cells #[.int .i64 at'] 3)).alloc (.cells #[.int .i64 0] 3)).alloc (.cells #[.int .i64 0] 3)).alloc (.cells #[.bool false] 4)) 9 (.string s)
  simp only [World.size_alloc] at b1 b2 b3 b4
  have hB0 : Below w.heap.size w (((((w.alloc (.cells #[.int .i64 at'] 3)).alloc (.cells #[.int .i64 0] 3)).alloc (.cells #[.int .i64 0] 3)).alloc (.cells #[.bool false] 4)).alloc (.cells #[.string s] 9)) :=
    (((((Below.refl _ w).alloc (Nat.le_refl _) _).alloc (by simp) _).alloc (by simp; omega) _).alloc (by simp; omega) _).alloc (by simp; omega) _
  have hsz : (((((w.alloc (.cells #[.int .i64 at'] 3)).alloc (.cells #[.int .i64 0] 3)).alloc (.cells #[.int .i64 0] 3)).alloc (.cells #[.bool false] 4)).alloc (.cells #[.string s] 9)).heap.size = w.heap.size + 5 := by simp
  obtain ⟨W0, hW0⟩ : ∃ W0, ((((w.alloc (.cells #[.int .i64 at'] 3)).alloc (.cells #[.int .i64 0] 3)).alloc (.cells #[.int .i64 0] 3)).alloc (.cells #[.bool false] 4)).alloc (.cells #[.string s] 9) = W0 := ⟨_, rfl⟩
  rw [hW0] at b0 b1 b2 b3 b4 hB0 hsz ⊢
  clear hW0
  refine wpIn_rangeFunc_ownH (F := Fence.wide) rfl h1 (gf := 28) (lb := #[.pointer (some ⟨w.heap.size + 1 + 1 + 1 + 1, 0, none⟩)]) rfl trivial (enters_of Try.func28 (by kernel_rfl) rfl)
    (lines_stops (n - 1) (by omega) (w.heap.size + 1 + 1 + 1 + 1) s hs W0 (by omega) b4.cell) KC.trans KC.put (Below.refl _ _) (fun _ => rfl)
    (PI w s at') (PX w at')
    (PI_own w s at' _ (by omega)) (fun c => PX_own w at' c _ (by omega))
    ⟨⟨⟨⟨⟨⟨b0, b1⟩, b2⟩, b3⟩, b4⟩, by simp⟩, hB0⟩
    (PA w s at') (fun x a' => PA_own w s at' x a' _)
    ?assign ?body ?done ?stop
  case assign =>
    rintro l pre x W K hI hK
    gi_wp2
    obtain ⟨⟨⟨⟨⟨⟨b0, b1⟩, b2⟩, b3⟩, b4⟩, hp⟩, hB⟩ := hI
    exact hK _ _ ((KeepsOthers.alloc _ _).from _) (KC.alloc _ _ _) ⟨⟨⟨⟨⟨⟨b0.alloc _, b1.alloc _⟩, b2.alloc _⟩, b3.alloc _⟩, b4.alloc _⟩, hp⟩, hB.alloc hB.size _⟩ ⟨W.heap.size, by have := b4.lt; omega, Blk.new W 44 _, rfl⟩
  case body =>
    rintro l pre x a' W hl ⟨r, hr⟩ hI ⟨Bx, hBx, bX, rfl⟩ hlt
    obtain ⟨⟨⟨⟨⟨⟨b0, b1⟩, b2⟩, b3⟩, b4⟩, hp⟩, hB⟩ := id hI
    clear hp
    have c0 := b0.cell
    have f1 := b1.frozen
    have f2 := b2.frozen
    have f3 := b3.frozen
    have c1 := b1.cell
    have c2 := b2.cell
    have c3 := b3.cell
    have x0 : W.cell? ⟨Bx, 0, none⟩ = some (.int .i64 (x.2.1 : Int)) := bX.cell 0
    have x1 : W.cell? ⟨Bx, 1, none⟩ = some (.int .i64 (x.2.2 : Int)) := bX.cell 1
    have hmx : Try.prog.follows .mixedOrders = true := by kernel_rfl
    by_cases hle : at' ≤ (x.2.2 : Int)
    · have hfin := PX_fin hI hle
      gi_wp2
      gi_region_o
      all_goals gi_wp2
      all_goals exact ⟨hfin.1.from _, hfin.2⟩
    · gi_wp2
      exact ⟨KeepsFrom.refl _ _, KC.refl _ _, PI_go hI hle⟩
  case done =>
    rintro D ys W hD rfl hI hK
    obtain ⟨⟨⟨⟨⟨⟨b0, b1⟩, b2⟩, b3⟩, b4⟩, hp⟩, hB⟩ := hI
    have HP := Lib.hid (place_none hp)
    have f1 := b1.frozen
    have f2 := b2.frozen
    have f3 := b3.frozen
    have c1 := b1.cell
    have c2 := b2.cell
    have c3 := b3.cell
    clear hp
    gi_wp2
    have hk3 : KeepsOthers W (((W.setCell ⟨w.heap.size + 1, 0, none⟩ (.int .i64 0)).setCell ⟨w.heap.size + 1 + 1, 0, none⟩ (.int .i64 0)).setCell ⟨w.heap.size + 1 + 1 + 1, 0, none⟩ (.bool false)) := ((KeepsOthers.setCell _ _ _).trans (KeepsOthers.setCell _ _ _)).trans (KeepsOthers.setCell _ _ _)
    have hK' := hk3.same D _ hK rfl
    have d1 := (((b1.set (.int .i64 0)).other (by omega : w.heap.size + 1 ≠ w.heap.size + 1 + 1) (.int .i64 0)).other (by omega : w.heap.size + 1 ≠ w.heap.size + 1 + 1 + 1) (.bool false)).cell
    have d2 := (((b2.other (by omega : w.heap.size + 1 + 1 ≠ w.heap.size + 1) (.int .i64 0)).set (.int .i64 0)).other (by omega : w.heap.size + 1 + 1 ≠ w.heap.size + 1 + 1 + 1) (.bool false)).cell
    have d3 := (((b3.other (by omega : w.heap.size + 1 + 1 + 1 ≠ w.heap.size + 1) (.int .i64 0)).other (by omega : w.heap.size + 1 + 1 + 1 ≠ w.heap.size + 1 + 1) (.int .i64 0)).set (.bool false)).cell
    have hB3 := ((hB.setCell (p := ⟨w.heap.size + 1, 0, none⟩) (by simp) (.int .i64 0)).setCell (p := ⟨w.heap.size + 1 + 1, 0, none⟩) (by simp; omega) (.int .i64 0)).setCell (p := ⟨w.heap.size + 1 + 1 + 1, 0, none⟩) (by simp; omega) (.bool false)
    refine ⟨by simp, .inl ⟨_, _, rfl, run_takeDeferred hK', ?_⟩⟩
    have e1 := cell_kept d1 (grownBy_putObj' _ D (.deferred none)) (fun r e => by cases e; exact ⟨_, hK', rfl⟩)
    have e2 := cell_kept d2 (grownBy_putObj' _ D (.deferred none)) (fun r e => by cases e; exact ⟨_, hK', rfl⟩)
    have e3 := cell_kept d3 (grownBy_putObj' _ D (.deferred none)) (fun r e => by cases e; exact ⟨_, hK', rfl⟩)
    refine ⟨place3 (0, 0, false), ?_, by rw [HP.out], hB3.trans (belowK_b (w := w) (Nat.le_refl _) _ D _ _ (by omega) hK' rfl rfl)⟩
    simp [results, Try.f12, go_sem, e1, e2, e3]
  case stop =>
    rintro D c pre W hD hpre hX hK
    obtain ⟨⟨rfl, ini, last, rfl, hno, hle, c1, c2, c3⟩, hB⟩ := hX
    have HP := Lib.hid (place_find h hpre hno hle)
    have hmem : last ∈ Sp.spansOf s.data.toList := by obtain ⟨r, hr⟩ := hpre; rw [← hr]; simp
    have hbd := Sp.spans_bd _ 0 0 0 (Nat.le_refl _) last hmem
    rw [size_toList] at hbd
    have hwr : IntKind.i64.wrap (at' - (last.2.1 : Int)) = at' - (last.2.1 : Int) := IntWalk.i64_in _ (by omega)
    rw [hwr] at c2
    clear hno hmem hpre hwr
    gi_wp2
    refine ⟨by simp, .inl ⟨_, _, rfl, run_takeDeferred hK, ?_⟩⟩
    have e1 := cell_kept c1.cell (grownBy_putObj' _ D (.deferred none)) (fun r e => by cases e; exact ⟨_, hK, rfl⟩)
    have e2 := cell_kept c2.cell (grownBy_putObj' _ D (.deferred none)) (fun r e => by cases e; exact ⟨_, hK, rfl⟩)
    have e3 := cell_kept c3.cell (grownBy_putObj' _ D (.deferred none)) (fun r e => by cases e; exact ⟨_, hK, rfl⟩)
    refine ⟨place3 ((last.1 : Int), at' - (last.2.1 : Int), true), ?_, by rw [HP.out], hB.trans (belowK_b (w := w) (Nat.le_refl _) _ D _ _ (by omega) hK rfl rfl)⟩
    simp [results, Try.f12, go_sem, e1, e2, e3]

/-- utf.Place, for every text and every number. -/
theorem place_calls (s : ByteArray) (hs : s.size ≤ 140737488351232) (at' : Int) (hw : at' ≤ 9223372036854775807) (w : World) :
    Calls Try.prog 12 #[.string s, .int .i64 at'] w fun e W' => e = .returned (place3 (Sp.placeF s.data.toList at')) ∧ Below w.heap.size w W' := by
  by_cases h : at' < 0
  · have e : Sp.placeF s.data.toList at' = (0, 0, false) := by simp [Sp.placeF, h]
    rw [e]
    exact callsIn_wide.1 (place_neg 3 s at' h w)
  · exact callsIn_wide.1 (place_pos 3 (Nat.le_refl _) s hs at' (by omega) hw w)

end Go.Proofs.Ytmcjjkjolbpneaa.utf
