/-
  prec: table, the map of operators.
-/
import Derived.Test.YtimhhdikdinhjaaDoorPrIter
import Derived.Test.YtimhhdikdinhjaaDoorPrBase
import Derived.Carry
namespace Go.Proofs.YtimhhdikdinhjaaDoor.pr
open Go.RowKit Go.Shelf sx
attribute [local go_sem] Oper.semAt_some
set_option linter.unusedVariables false

/-- Between two rounds: N: the map's block; its box is behind it. -/
def TI (w : World) (N : Nat) (pre : List Op) (W : World) : Prop :=
  (TabAt W N pre ∧ Boxed W (N + 1) 41 (.map (some N))) ∧ Below w.heap.size w W
theorem TI_own (w : World) (N B : Nat) (hN : N < B) (hB : w.heap.size ≤ B) : OwnFrom B (TI w N) :=
  OwnFrom.and (OwnFrom.and (fun pre X Y row hs hg hr => hs.grown hg (fun e => by have := (hr _ e.symm).1; omega)) (Own.from (boxed_own _ _ _) _)) (ownFrom_below (Nat.le_refl _) hB)

abbrev tabAct (N Bx : Nat) (x : Op) : Act :=
  { tmps := #[.map none, .pointer (some ⟨N + 1, 0, none⟩), .string x.1, .pointer (some ⟨Bx, 0, none⟩), .map (some N), .string x.1, .agg #[.int .i64 x.2.1, .int .i64 x.2.2], undef, undef, undef, undef], defers := [] }
def TA (w : World) (N : Nat) (x : Op) (a' : Act) (W : World) : Prop :=
  ∃ Bx, Blk W Bx 40 #[.int .i64 x.2.1, .int .i64 x.2.2] ∧ a' = tabAct N Bx x
theorem TA_own (w : World) (N : Nat) (x : Op) (a' : Act) (B : Nat) : OwnFrom B (fun (_ : Unit) W => TA w N x a' W) :=
  fun _ X Y row hs hg hr => by
    obtain ⟨Bx, h1, h2⟩ := hs
    exact ⟨Bx, blk_own Bx 40 (fun (_ : Unit) => #[.int .i64 x.2.1, .int .i64 x.2.2]) () X Y row h1 hg (fun r e => (hr r e).2), h2⟩
theorem ops_pre {pre rest : List Op} {x : Op} (h : opsP = pre ++ x :: rest) : (∀ y ∈ pre, y.1.size ≤ 3) ∧ x.1.size ≤ 3 ∧ ∀ y ∈ pre, y.1 ≠ x.1 := by
  refine ⟨fun y hy => ops_small y (by rw [h]; simp [hy]), ops_small x (by rw [h]; simp), fun y hy => ?_⟩
  have ha := ops_apart
  rw [h, List.pairwise_append] at ha
  exact ha.2.2 y hy x (by simp)

set_option maxRecDepth 100000 in
set_option maxHeartbeats 4000000 in
theorem table_in (n : Nat) (hn : 3 ≤ n) (w : World) (hL : LvAt w) :
    CallsIn Fence.wide n Tryd.prog 26 #[] w fun e W' => e = .returned (.map (some w.heap.size)) ∧ TabAt W' w.heap.size opsP ∧ Below w.heap.size w W' := by
  have h1 : 1 ≤ n := by omega
  have hmk : ∀ w, (Instr.makeMap 41 (some (.int .i64 24))).run Tryd.prog w = .ok (.map (some w.heap.size)) (w.alloc (.map #[] 0)) := fun w => rfl
  have HL := Lib.hid hL
  clear hL
  refine callsIn_of_wp_marks Tryd.func26 rfl trivial ?_ rfl
  simp only [Tryd.ntmps26, List.size_toArray, List.length_nil, Nat.reduceSub, Array.replicate_succ, Array.replicate_zero, List.push_toArray, List.append_toArray, List.nil_append]
  gi_wp2_with fail
  obtain ⟨W0, hW0⟩ : ∃ W0, ((w.alloc (.map #[] 0)).alloc (.cells #[.map (some w.heap.size)] 41)) = W0 := ⟨_, rfl⟩
  have hB0 : Below w.heap.size w W0 := by rw [← hW0]; exact ((Below.refl _ w).alloc (Nat.le_refl _) _).alloc (by simp) _
  have hs0 : W0.heap.size = w.heap.size + 2 := by rw [← hW0]; simp
  have hT0 : TabAt W0 w.heap.size [] := by rw [← hW0]; exact (tab_new w).own ((Below.refl _ _).alloc (Nat.le_refl _) _)
  have hb0 : Boxed W0 (w.heap.size + 1) 41 (.map (some w.heap.size)) := by
    have := Boxed.new (w.alloc (.map #[] 0)) 41 (.map (some w.heap.size))
    rw [← hW0]; simpa using this
  rw [hW0]
  clear hW0
  refine wpIn_rangeFunc_all (F := Fence.wide) rfl h1 (gf := 25) (lb := #[]) rfl trivial (enters_of Tryd.func25 (by kernel_rfl) rfl)
    (graded_all (n - 1) (by omega) w HL.out) KT.trans (KT.put (by omega)) hB0 (fun _ => rfl)
    (TI w w.heap.size) (TI_own w _ _ (by omega) (by omega)) ⟨⟨hT0, hb0⟩, hB0⟩
    (TA w w.heap.size) (fun x a' => TA_own w _ x a' _)
    ?assign ?body ?done
  case assign =>
    rintro l pre x W K hI hK
    gi_wp2
    have hbW : Below W.heap.size W (W.alloc (.cells #[.int .i64 x.2.1, .int .i64 x.2.2] 40)) := (Below.refl _ W).alloc (Nat.le_refl _) _
    have hsW := hI.2.size
    exact hK _ _ ((keeps_below hbW).from _) (KT.of_below hbW hsW) ⟨⟨hI.1.1.own hbW, hI.1.2.alloc _⟩, hI.2.trans (hbW.mono hsW)⟩ ⟨_, Blk.new W _ _, rfl⟩
  case body =>
    rintro l pre x rest a' W hys hl ⟨⟨hT, hb⟩, hB⟩ ⟨Bx, hx, rfl⟩
    obtain ⟨p1, p2, p3⟩ := ops_pre hys
    obtain ⟨W3, hup, hT3, hg3⟩ := hT.put p1 p2 p3
    have c1 := hb.cell
    have c2 := hx.cell 0
    have c3 := hx.cell 1
    have HT3 := Lib.hid hT3; have HG3 := Lib.hid hg3; have HB := Lib.hid hB; have HBX := Lib.hid hb
    have HTL := Lib.hid hT
    clear hT hT3 hg3 hB hb p1 p2 p3 hys HL hB0 hT0 hb0
    gi_wp2_with fail
    have hlt := HTL.out.lt
    exact ⟨KeepsFrom.of_grownBy HG3.out (fun j e => by cases e; omega), ⟨(Below.refl _ W).grown HG3.out HB.out.size (fun j e => by cases e; exact Nat.le_refl _), fun B vs h => h.kept HG3.out (fun e => by
        cases e
        obtain ⟨es, ck, h1, _⟩ := HTL.out
        rw [show W.heap[w.heap.size]? = _ from h] at h1
        cases h1)⟩,
      ⟨HT3.out, HBX.out.kept HG3.out (fun e => by injection e with e; omega)⟩, HB.out.grown HG3.out HB.out.size (fun j e => by cases e; exact Nat.le_refl _)⟩
  case done =>
    rintro D W hD ⟨⟨hT, hb⟩, hB⟩ hdef
    have c1 := hb.cell
    have HT := Lib.hid hT; have HB := Lib.hid hB; have HD := Lib.hid hdef
    clear hT hB hdef hb hB0 hT0 hb0 HL
    gi_wp2
    refine ⟨by simp, .inl ⟨_, _, rfl, run_takeDeferred HD.out, ?_⟩⟩
    have hg := grownBy_putObj' W D (.deferred none)
    have hw : Below w.heap.size w (W.putObj D (.deferred none)) := HB.out.grown hg HB.out.size (fun j e => by cases e; omega)
    refine ⟨.map (some w.heap.size), ?_, rfl, HT.out.grown hg (fun e => by injection e with e; omega), hw⟩
    simp [results, Tryd.f26, go_sem]
end Go.Proofs.YtimhhdikdinhjaaDoor.pr
