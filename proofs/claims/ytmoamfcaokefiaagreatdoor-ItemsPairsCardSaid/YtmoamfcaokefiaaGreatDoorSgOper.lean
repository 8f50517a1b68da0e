/-
  sign: opers, its iterator over the package's table, Oper: their contracts.
-/
import Derived.RangeFuncNested
import Derived.RangeFuncBound
import Derived.RangeFuncCalls
import Derived.RangeFuncLeaves
import Derived.RangeFuncBox
import Derived.RegionTactic
import Derived.OwnWalkIn
import Derived.TacticsInMore
import Derived.LoopNIn
import Derived.LoopIn
import Derived.ChangeAlike
import Derived.Deep.MidRow
import Derived.Test.YtmoamfcaokefiaaGreatDoorSgFns3
namespace Go.Proofs.YtmoamfcaokefiaaGreatDoor.sg
open Go.RowKit Go.Shelf
attribute [local go_sem] Oper.semAt_some
set_option linter.unusedVariables false

/-- The table's cells. -/
def opsL : List Value := Sg.opers.map fun l => Value.string ⟨l.toArray⟩
/-- The package's table lies in its block. -/
def OpsAt (W : World) : Prop := 1 < W.heap.size ∧ W.rangeAt 1 0 opsL
theorem OpsAt.below {n : Nat} {W W' : World} (h : OpsAt W) (hb : Below n W W') (hn : 1 < n) : OpsAt W' := ⟨by have := hb.size; have := h.1; omega, fun j v hj => (hb.cell (p := ⟨1, 0 + j, none⟩) hn).trans (h.2 j v hj)⟩
theorem OpsAt.own {W W' : World} (h : OpsAt W) (hb : Below W.heap.size W W') : OpsAt W' := h.below hb h.1
theorem OpsAt.load {W : World} (h : OpsAt W) : (Instr.loadAt 133 (.pointer (some ⟨1, 0, none⟩))).run Tryz.prog W = .ok (.agg opsL.toArray) W :=
  run_loadAt_mid W 1 0 133 opsL (.array 34 9) h.2 Tryz.underlying133 rfl (by kernel_rfl)
theorem opsL_at {m : Nat} (h : m < 34) : opsL.toArray[m]? = some (.string ⟨(Sg.opers.getD m []).toArray⟩) := by
  have hl : Sg.opers.length = 34 := rfl
  simp [opsL, List.getD, h, hl]
theorem opsL_size : opsL.toArray.size = 34 := by simp [opsL]; rfl

theorem wpListIn_load_val {F : Fence} {n : Nat} {P : Program} {w : World} {ops : Array Oper} {rest : List Oper} {o : Oper} {a : Act} {Q : Exit → Act → World → Prop}
    (hg : o.guard = none) (ty : TypeId) (x : Operand) (hop : o.op = Op.load ty x) (pv : Value) (hx : a.eval x = pv) (v : Value) (hld : (Instr.loadAt ty pv).run P w = .ok v w)
    (hK : wpListIn F n P ops Q rest (a.put o.dst v) w) : wpListIn F n P ops Q (o :: rest) a w := by
  refine wpListIn_plain hg fun K' hK' => ?_
  unfold Oper.wpIn
  refine ⟨by simp [Oper.about, hop], ?_⟩
  rw [Oper.semAt_plain F _ _ (by rw [hop]; intro c hc'; cases hc')]
  simp [execOp, hop, hx, hld, Result.andThen]
  exact hK' _ _ hK

theorem run_ops {T : Array Value} {m : Nat} (hm : m < 34) {v : Value} (h : T[m]? = some v) (w : World) :
    (Instr.index 133 (.agg T) (.int .i64 (m : Int))).run Tryz.prog w = .ok v w := by
  simp [Instr.index, run_underlying Tryz.underlying133, asIntOf, part, go_sem, h]
  omega

abbrev encS (x : List UInt8) : Array Value := #[.string ⟨x.toArray⟩]

set_option maxHeartbeats 1000000 in
theorem opers_in (n : Nat) (w : World) :
    CallsIn Fence.wide n Tryz.prog 124 #[] w fun e w' => e = .returned (.func (.func 136) #[] #[]) ∧ w' = w := by
  refine callsIn_of_wp Tryz.func124 rfl trivial ?_ rfl
  simp only [Tryz.ntmps124, List.size_toArray, List.length_nil, Nat.reduceSub, Array.replicate_succ, Array.replicate_zero, List.push_toArray, List.append_toArray, List.nil_append]
  gi_wp2
  go_ret
  exact ⟨rfl, rfl⟩

set_option maxRecDepth 100000 in
set_option maxHeartbeats 2000000 in
theorem opers1_in (n : Nat) (hn : 1 ≤ n) (l : Nat) (J Jx : List (List UInt8) → World → Prop)
    (hY : ∀ pre x W, J pre W → pre.length < 34 → YieldAt Fence.wide (n - 1) Tryz.prog l (encS x) W fun e W' =>
      (e = .returned (.bool true) ∧ J (pre ++ [x]) W' ∧ True) ∨ (e = .returned (.bool false) ∧ Jx (pre ++ [x]) W'))
    (W : World) (hW : OpsAt W) (h0 : J [] W) :
    CallsIn Fence.wide n Tryz.prog 136 #[.func (.yield l) #[] #[]] W fun e W' => (∃ v, e = .returned v) ∧
      ((∃ ys, ys = Sg.opers ∧ J ys W') ∨ (∃ pre, pre <+: Sg.opers ∧ Jx pre W')) := by
  have hld := hW.load
  have hsz := opsL_size
  obtain ⟨T, hT⟩ : ∃ T, opsL.toArray = T := ⟨_, rfl⟩
  rw [hT] at hld hsz
  refine callsIn_of_wp Tryz.func136 rfl trivial ?_ rfl
  simp only [Tryz.ntmps136, List.size_toArray, List.length_cons, List.length_nil, Nat.reduceAdd, Nat.reduceSub, Array.replicate_succ, Array.replicate_zero, List.push_toArray, List.append_toArray, List.nil_append, List.cons_append]
  gi_wp2_with (refine wpListIn_load_val rfl _ _ rfl _ rfl _ hld ?_)
  gi_loopw [3, 5] (fun o k wr => ∃ m : Nat, k = .int .i64 (m : Int) ∧ m ≤ 34 ∧ J (Sg.opers.take m) wr) (fun _ k _ => 34 - (intOf k).toNat)
  case atStart => exact ⟨0, rfl, Nat.zero_le _, h0⟩
  case round =>
    obtain ⟨m, rfl, hm, hJ⟩ := hrel
    by_cases h : m < 34
    · have hix := opsL_at h
      rw [hT] at hix
      have hx : Sg.opers.take (m + 1) = Sg.opers.take m ++ [Sg.opers.getD m []] := by
        have hl : m < Sg.opers.length := h
        rw [List.take_succ_eq_append_getElem hl]
        simp [List.getD, hl]
      obtain ⟨fn, tmps, assign, body, hy, hR⟩ := hY (Sg.opers.take m) (Sg.opers.getD m []) wr hJ (by rw [List.length_take]; omega)
      rw [← hx] at hR
      obtain ⟨x, hxx⟩ : ∃ x, Sg.opers.getD m [] = x := ⟨_, rfl⟩
      rw [hxx] at hix hy
      have HX := Lib.hid hix
      clear hxx hx hix
      dsimp only [encS] at hy
      gi_wp2
      rw [run_ops h HX.out]
      gi_wp2
      refine hR.mono ?_
      rintro e W3 (⟨rfl, hJ3, _⟩ | ⟨rfl, hJx3⟩)
      · gi_wp2
        go_roundw
        case rel => exact ⟨m + 1, by go_num, by omega, hJ3⟩
        case measure => simp [intOf]; omega
      · gi_wp2
        refine bodyPost_ret (results_none rfl _ _ _) rfl ?_
        exact ⟨⟨_, rfl⟩, .inr ⟨_, List.take_prefix _ _, hJx3⟩⟩
    · have hd : m = 34 := by omega
      subst hd
      gi_wp2
      refine bodyPost_end (results_none rfl _ _ _) rfl ?_
      exact ⟨⟨_, rfl⟩, .inl ⟨_, rfl, hJ⟩⟩

theorem opers_stops (n : Nat) (hn : 1 ≤ n) (w : World) (hw : OpsAt w) :
    SeqStopsK Fence.wide n Tryz.prog 136 #[] encS (fun _ _ => True) (fun ys => ys = Sg.opers) (fun pre => pre <+: Sg.opers) 34 w := fun l J Jx W hW _ _ hY h0 => by
  exact opers1_in n hn l J Jx (fun pre x W1 hJ hl => hY pre x W1 hJ hl) W (hw.own hW) h0

/-- Between two rounds. -/
def OI (w : World) (s : ByteArray) (pre : List (List UInt8)) (W : World) : Prop :=
  ((Boxed W w.heap.size 9 (.string s) ∧ Boxed W (w.heap.size + 1) 3 (.int .i64 0)) ∧ (∀ x ∈ pre, Lib.hasPrefix s.data.toList x = false)) ∧ Below w.heap.size w W
/-- A round has left. -/
def OX (w : World) (s : ByteArray) (c : Code) (pre : List (List UInt8)) (W : World) : Prop :=
  (c = .ret ∧ ∃ ini last, pre = ini ++ [last] ∧ (∀ x ∈ ini, Lib.hasPrefix s.data.toList x = false) ∧ Lib.hasPrefix s.data.toList last = true ∧ Boxed W (w.heap.size + 1) 3 (.int .i64 (last.length : Int))) ∧ Below w.heap.size w W
def OA (w : World) (s : ByteArray) (x : List UInt8) (a' : Act) (W : World) : Prop :=
  a' = { tmps := #[.string s, .pointer (some ⟨w.heap.size, 0, none⟩), .pointer (some ⟨w.heap.size + 1, 0, none⟩), .string ⟨x.toArray⟩, .func (.func 136) #[] #[], .string ⟨x.toArray⟩, undef, undef, undef, undef, undef], defers := [] }
theorem OI_own (w : World) (s : ByteArray) (B : Nat) (hB : w.heap.size ≤ B) : OwnFrom B (OI w s) :=
  OwnFrom.and (OwnFrom.and (OwnFrom.and (Own.from (boxed_own _ _ _) _) (Own.from (boxed_own _ _ _) _)) (ownFrom_pure _ _)) (ownFrom_below (Nat.le_refl _) hB)
theorem OX_own (w : World) (s : ByteArray) (c : Code) (B : Nat) (hB : w.heap.size ≤ B) : OwnFrom B (OX w s c) :=
  OwnFrom.and (fun pre X Y row hs hg hr => by
      obtain ⟨hc, ini, last, e1, e2, e3, c1⟩ := hs
      exact ⟨hc, ini, last, e1, e2, e3, boxed_own _ _ (fun (_ : Unit) => _) () X Y row c1 hg (fun r e => (hr r e).2)⟩) (ownFrom_below (Nat.le_refl _) hB)
theorem OI_go {w W : World} {s : ByteArray} {pre : List (List UInt8)} {x : List UInt8} (h : OI w s pre W) (hle : Lib.hasPrefix s.data.toList x = false) : OI w s (pre ++ [x]) W := by
  obtain ⟨⟨hb, hp⟩, hB⟩ := h
  exact ⟨⟨hb, fun y hy => (List.mem_append.1 hy).elim (hp y) (fun e => by simp at e; subst e; exact hle)⟩, hB⟩
theorem OX_fin {w W : World} {s : ByteArray} {pre : List (List UInt8)} {x : List UInt8} (h : OI w s pre W) (hle : Lib.hasPrefix s.data.toList x = true) :
    KeepsOthers W (W.setCell ⟨w.heap.size + 1, 0, none⟩ (.int .i64 (x.length : Int))) ∧ OX w s .ret (pre ++ [x]) (W.setCell ⟨w.heap.size + 1, 0, none⟩ (.int .i64 (x.length : Int))) := by
  obtain ⟨⟨⟨b0, b1⟩, hp⟩, hB⟩ := h
  exact ⟨KeepsOthers.setCell _ _ _, ⟨rfl, pre, x, rfl, hp, hle, b1.set _⟩, hB.setCell (p := ⟨w.heap.size + 1, 0, none⟩) (by simp) _⟩
theorem oper_find {l : List UInt8} {ini : List (List UInt8)} {x : List UInt8} (hpre : ini ++ [x] <+: Sg.opers) (hno : ∀ y ∈ ini, Lib.hasPrefix l y = false) (hle : Lib.hasPrefix l x = true) : Sg.oper l = x.length := by
  obtain ⟨rest, hr⟩ := hpre
  unfold Sg.oper
  rw [← hr, List.append_assoc, List.find?_append, List.find?_eq_none.2 (fun y hy => by rw [hno y hy]; simp)]
  have e : ([x] ++ rest).find? (fun o => Lib.hasPrefix l o) = some x := by simp [hle]
  rw [e]; rfl
theorem oper_none {l : List UInt8} (hno : ∀ y ∈ Sg.opers, Lib.hasPrefix l y = false) : Sg.oper l = 0 := by
  unfold Sg.oper
  rw [List.find?_eq_none.2 (fun y hy => by rw [hno y hy]; simp)]

theorem pre_in (m : Nat) (s : ByteArray) (x : List UInt8) (r : Bool) (h : Lib.hasPrefix s.data.toList x = r) (w : World) :
    CallsIn Fence.wide m Tryz.prog 81 #[.string s, .string ⟨x.toArray⟩] w fun e w' => e = .returned (.bool r) ∧ w = w' := by
  refine (callsIn_wide.2 (Tryz.strings_HasPrefix s ⟨x.toArray⟩ w)).mono ?_
  rintro e w' ⟨rfl, rfl⟩
  exact ⟨by rw [← h], rfl⟩
theorem size_mk (x : List UInt8) : ((⟨x.toArray⟩ : ByteArray).size : Int) = (x.length : Int) := by
  show ((x.toArray.size : Nat) : Int) = _
  simp

set_option maxRecDepth 100000 in
set_option maxHeartbeats 2000000 in
theorem oper_in (n : Nat) (hn : 3 ≤ n) (s : ByteArray) (w : World) (hw : OpsAt w) :
    CallsIn Fence.wide n Tryz.prog 106 #[.string s] w fun e W' => e = .returned (.int .i64 (Sg.oper s.data.toList : Nat)) ∧ Below w.heap.size w W' := by
  have h1 : 1 ≤ n := by omega
  have hf : Fence.wide.fn 124 := trivial
  refine callsIn_of_wp_marks Tryz.func106 rfl trivial ?_ rfl
  simp only [Tryz.ntmps106, List.size_toArray, List.length_cons, List.length_nil, Nat.reduceAdd, Nat.reduceSub, Array.replicate_succ, Array.replicate_zero, List.push_toArray, List.append_toArray, List.nil_append, List.cons_append]
  gi_wp2_with (gi_at_call 124; refine (opers_in (n - 1) _).mono ?_; rintro e w' ⟨rfl, rfl⟩)
  have b0 := (Boxed.new w 9 (.string s)).alloc (.cells #[.int .i64 0] 3)
  have b1 := Boxed.new (w.alloc (.cells #[.string s] 9)) 3 (.int .i64 0)
  simp only [World.size_alloc] at b1
  have hB0 : Below w.heap.size w ((w.alloc (.cells #[.string s] 9)).alloc (.cells #[.int .i64 0] 3)) := ((Below.refl _ w).alloc (Nat.le_refl _) _).alloc (by simp) _
  have hsz : ((w.alloc (.cells #[.string s] 9)).alloc (.cells #[.int .i64 0] 3)).heap.size = w.heap.size + 2 := by simp
  obtain ⟨W0, hW0⟩ : ∃ W0, (w.alloc (.cells #[.string s] 9)).alloc (.cells #[.int .i64 0] 3) = W0 := ⟨_, rfl⟩
  rw [hW0] at b0 b1 hB0 hsz ⊢
  clear hW0
  refine wpIn_rangeFunc_ownH (F := Fence.wide) rfl h1 (gf := 136) (lb := #[]) rfl trivial (enters_of Tryz.func136 (by kernel_rfl) rfl)
    (opers_stops (n - 1) (by omega) W0 (hw.own hB0)) (fun _ _ => trivial) (fun _ _ _ _ _ _ _ _ => trivial) (Below.refl _ _) (fun _ => rfl)
    (OI w s) (OX w s)
    (OI_own w s _ (by omega)) (fun c => OX_own w s c _ (by omega))
    ⟨⟨⟨b0, b1⟩, by simp⟩, hB0⟩
    (OA w s) (fun x a' _ _ _ _ hs _ _ => hs)
    ?assign ?body ?done ?stop
  case assign =>
    rintro l pre x W K hI hK
    gi_wp2
    exact hK _ _ (KeepsFrom.refl _ _) trivial hI rfl
  case body =>
    rintro l pre x a' W hl ⟨r, hr⟩ hI rfl hlt
    obtain ⟨⟨⟨b0, b1⟩, hp⟩, hB⟩ := id hI
    clear hp
    have c0 := b0.cell
    have c1 := b1.cell
    have f1 := b1.frozen
    have hdep : 1 ≤ n - 1 - 1 := by omega
    have hf24 : Fence.wide.fn 81 := trivial
    cases hle : Lib.hasPrefix s.data.toList x with
    | true =>
      have hfin := OX_fin hI hle
      have hsz := size_mk x
      have HF := Lib.hid hfin
      clear hfin
      gi_wp2_with (gi_at_call 81; refine (CallsIn.inRound l (pre_in _ s x true hle _)).mono ?_; rintro e w' ⟨rfl, rfl⟩)
      exact ⟨HF.out.1.from _, HF.out.2⟩
    | false =>
      gi_wp2_with (gi_at_call 81; refine (CallsIn.inRound l (pre_in _ s x false hle _)).mono ?_; rintro e w' ⟨rfl, rfl⟩)
      exact ⟨KeepsFrom.refl _ _, trivial, OI_go hI hle⟩
  case done =>
    rintro D ys W hD rfl hI hK
    obtain ⟨⟨⟨b0, b1⟩, hp⟩, hB⟩ := hI
    have HP := Lib.hid (oper_none hp)
    have f1 := b1.frozen
    have c1 := b1.cell
    clear hp
    gi_wp2
    have hk3 : KeepsOthers W (W.setCell ⟨w.heap.size + 1, 0, none⟩ (.int .i64 0)) := KeepsOthers.setCell _ _ _
    have hK' := hk3.same D _ hK rfl
    have d1 := (b1.set (.int .i64 0)).cell
    have hB3 := hB.setCell (p := ⟨w.heap.size + 1, 0, none⟩) (by simp) (.int .i64 0)
    refine ⟨by simp, .inl ⟨_, _, rfl, run_takeDeferred hK', ?_⟩⟩
    have e1 := cell_kept d1 (grownBy_putObj' _ D (.deferred none)) (fun r e => by cases e; exact ⟨_, hK', rfl⟩)
    refine ⟨.int .i64 0, ?_, by rw [HP.out]; rfl, hB3.trans (belowK_b (w := w) (Nat.le_refl _) _ D _ _ (by omega) hK' rfl rfl)⟩
    simp [results, Tryz.f106, go_sem, e1]
  case stop =>
    rintro D c pre W hD hpre hX hK
    obtain ⟨⟨rfl, ini, last, rfl, hno, hle, c1⟩, hB⟩ := hX
    have HP := Lib.hid (oper_find hpre hno hle)
    clear hno hle hpre
    gi_wp2
    refine ⟨by simp, .inl ⟨_, _, rfl, run_takeDeferred hK, ?_⟩⟩
    have e1 := cell_kept c1.cell (grownBy_putObj' _ D (.deferred none)) (fun r e => by cases e; exact ⟨_, hK, rfl⟩)
    refine ⟨.int .i64 (last.length : Int), ?_, by rw [HP.out], hB.trans (belowK_b (w := w) (Nat.le_refl _) _ D _ _ (by omega) hK rfl rfl)⟩
    simp [results, Tryz.f106, go_sem, e1]

theorem oper_calls (s : ByteArray) (w : World) (hw : OpsAt w) :
    Calls Tryz.prog 106 #[.string s] w fun e W' => e = .returned (.int .i64 (Sg.oper s.data.toList : Nat)) ∧ Below w.heap.size w W' :=
  callsIn_wide.1 (oper_in 3 (Nat.le_refl _) s w hw)
end Go.Proofs.YtmoamfcaokefiaaGreatDoor.sg
