/-
  node: Count.
-/
import Derived.Test.YtbdkemgfdghbkaaDoorNdIter2
import Derived.Shelf.Abstract
namespace Go.Proofs.YtbdkemgfdghbkaaDoor.nd
open Go.RowKit Go.Shelf sx ed
attribute [local go_sem] Oper.semAt_some
set_option linter.unusedVariables false

/-- What every caller's invariant says. -/
def IB (w : World) (D : Nat → Prop) (W : World) : Prop := Below w.heap.size w W ∧ ∀ k, D k → w.heap.size ≤ k
theorem IB.ab {w : World} {D D' : Nat → Prop} {A B : World} (h : IB w D A) (hb : But A.heap.size D A B) (hD : ∀ k, D' k → D k ∨ A.heap.size ≤ k) : IB w D' B :=
  ⟨h.1.trans ⟨hb.os, hb.tape, hb.output, hb.size, fun k hk => hb.block k (Nat.lt_of_lt_of_le hk h.1.size) (fun e => by have := h.2 k e; omega)⟩, fun k hk => by
    rcases hD k hk with e | e
    · exact h.2 k e
    · have := h.1.size; omega⟩
theorem IB.own {w W : World} {D : Nat → Prop} {row : Option Nat} {B : Nat} {W' : World} (h : IB w D W) (hB : w.heap.size ≤ B) (hg : W.grownBy W' row) (hr : ∀ r, row = some r → B ≤ r) : IB w D W' :=
  ⟨h.1.grown hg h.1.size (fun k e => by have := hr k e; omega), h.2⟩
/-- A box of the body's own. -/
def BX (N : Nat) (t : TypeId) (v : Value) (D : Nat → Prop) (W : World) : Prop := Boxed W N t v ∧ ¬ D N
theorem BX.ab {N : Nat} {t : TypeId} {v : Value} {D D' : Nat → Prop} {A B : World} (h : BX N t v D A) (hb : But A.heap.size D A B) (hD : ∀ k, D' k → D k ∨ A.heap.size ≤ k) : BX N t v D' B :=
  ⟨(hb.block N (Boxed.lt h.1) h.2).trans h.1, fun e => by
    rcases hD N e with e | e
    · exact h.2 e
    · have := Boxed.lt h.1; omega⟩
theorem BX.own {N : Nat} {t : TypeId} {v : Value} {D : Nat → Prop} {W W' : World} {row : Option Nat} (h : BX N t v D W) (hg : W.grownBy W' row) (hr : ∀ r, row = some r → ∃ o : Obj, W.heap[r]? = some o ∧ o.isCells = false) : BX N t v D W' :=
  ⟨boxed_own N t (fun (_ : Unit) => v) () W W' row h.1 hg hr, h.2⟩

def CI (w : World) (N : Nat) (pre : List Told) (D : Nat → Prop) (W : World) : Prop := BX N 3 (.int .i64 (pre.length : Int)) D W ∧ IB w D W
theorem CI.ab (w : World) (N : Nat) : AbD (CI w N) := fun s D D' A B h hb hD => ⟨h.1.ab hb hD, h.2.ab hb hD⟩
theorem CI.own (w : World) (N B : Nat) (hB : w.heap.size ≤ B) (D : Nat → Prop) : OwnFrom B (fun s W => CI w N s D W) := fun s X Y row h hg hr =>
  ⟨h.1.own hg (fun r e => (hr r e).2), h.2.own hB hg (fun r e => (hr r e).1)⟩

set_option maxRecDepth 100000 in
set_option maxHeartbeats 8000000 in
theorem count_in (n : Nat) (hn : 3 ≤ n) (x : Nd) (hct : x.count ≤ 1000000) (w : World) (v : Value) (hu : NdAt (Lt w.heap.size) w x v) :
    CallsIn Fence.wide n Tryd.prog 20 #[v] w fun e w' => e = .returned (.int .i64 (x.count : Int)) ∧ Below w.heap.size w w' := by
  have h1 : 1 ≤ n := by omega
  obtain ⟨s, rfl, hs⟩ := hu
  obtain ⟨ao, cap, rfl, hm⟩ := hs.slice
  obtain ⟨W0, hW0⟩ : ∃ W0, ((w.alloc (.cells #[.int .i64 x.k, .string x.t, .slice ao x.kids.len cap] 24)).alloc (.cells #[.int .i64 0] 3)).alloc (.cells #[.int .i64 x.k, .string x.t, .slice ao x.kids.len cap] 24) = W0 := ⟨_, rfl⟩
  have hb0 : Below w.heap.size w W0 := by rw [← hW0]; exact (((Below.refl _ w).alloc (Nat.le_refl _) _).alloc (by simp) _).alloc (by simp; omega) _
  have hsz : W0.heap.size = w.heap.size + 3 := by rw [← hW0]; simp
  have k2 : Boxed W0 (w.heap.size + 1) 3 (.int .i64 0) := by
    have := (Boxed.new (w.alloc (.cells #[.int .i64 x.k, .string x.t, .slice ao x.kids.len cap] 24)) 3 (.int .i64 0)).alloc (.cells #[.int .i64 x.k, .string x.t, .slice ao x.kids.len cap] 24)
    rw [← hW0]; simpa using this
  have k3 : Blk W0 (w.heap.size + 1 + 1) 24 #[.int .i64 x.k, .string x.t, .slice ao x.kids.len cap] := by
    rw [← hW0]
    simpa using Blk.new ((w.alloc (.cells #[.int .i64 x.k, .string x.t, .slice ao x.kids.len cap] 24)).alloc (.cells #[.int .i64 0] 3)) 24 #[.int .i64 x.k, .string x.t, .slice ao x.kids.len cap]
  have hseq := walk_all x hct (n - 1) w.heap.size (w.heap.size + 1 + 1) W0 hb0.size ao cap k3 (hs.below hb0 (Nat.le_refl _))
  have HSEQ := Lib.hid hseq; have HW0 := Lib.hid hW0; have HB0 := Lib.hid hb0; have HSZ := Lib.hid hsz; have HK2 := Lib.hid k2
  clear hseq hW0 hb0 hsz k2 k3 hs
  refine callsIn_of_wp_marks Tryd.func20 rfl trivial ?_ rfl
  simp only [Tryd.ntmps20, List.size_toArray, List.length_cons, List.length_nil, Nat.reduceAdd, Nat.reduceSub, Array.replicate_succ, Array.replicate_zero, List.push_toArray, List.append_toArray, List.nil_append, List.cons_append]
  gi_wp2_with fail
  refine ⟨trivial, ?_⟩
  refine (walk_calls x _ ao cap (n - 1)).mono ?_
  rintro e w' ⟨rfl, rfl⟩
  gi_wp2_with fail
  rw [HW0.out]
  have hws : w.heap.size ≤ W0.heap.size := HB0.out.size
  refine wpIn_rangeFunc_D (F := Fence.wide) rfl h1 (gf := 47) (lb := #[.pointer (some ⟨w.heap.size + 1 + 1, 0, none⟩)]) rfl trivial (enters_of Tryd.func47 (by kernel_rfl) rfl)
    HSEQ.out hws (Below.refl _ _) (fun x D W vs h => by obtain ⟨pv, xv, rfl, _⟩ := h; rfl)
    (CI w (w.heap.size + 1)) (CI.ab w _) (CI.own w _ _ hws) ⟨⟨HK2.out, id⟩, HB0.out, fun k hk => hk.elim⟩
    (fun _ D vs a' W => ∃ pv xv, vs = #[pv, xv] ∧ a' = { tmps := #[.agg #[.int .i64 x.k, .string x.t, .slice ao x.kids.len cap], .pointer (some ⟨w.heap.size, 0, none⟩), .int .i64 0, .pointer (some ⟨w.heap.size + 1, 0, none⟩), .agg #[.int .i64 x.k, .string x.t, .slice ao x.kids.len cap], .func (.func 47) #[] #[.pointer (some ⟨w.heap.size + 1 + 1, 0, none⟩)], pv, xv, undef, undef, undef], defers := [] })
    (fun _ _ _ _ _ _ _ _ h _ _ => h) ?assign ?body ?done
  case assign =>
    rintro l pre y D W vs K hI hD ⟨pv, xv, rfl, _⟩ hK
    gi_wp2
    exact hK _ _ ((KeepsOthers.refl _).from _) (KD.refl _ _ _) hI ⟨pv, xv, rfl, by simp⟩
  case body =>
    rintro l pre y rest D vs a' W hys hl ⟨⟨hb, hnd⟩, hI⟩ hD ⟨pv, xv, rfl, rfl⟩
    have hpl : pre.length ≤ 1000000 := by
      have := congrArg List.length hys
      rw [Nd.walk_len] at this
      simp at this
      omega
    have c1 := hb.cell
    have c2 := hb.frozen
    have HB := Lib.hid hb; have HI := Lib.hid hI
    clear hb hI hys
    gi_wp2_with fail
    have hlt := Boxed.lt HB.out
    exact ⟨(KeepsOthers.setCell _ _ _).from _, KD.setCell (p := ⟨w.heap.size + 1, 0, none⟩) (Nat.le_succ _) hnd _, ⟨⟨by
      have := HB.out.set (.int .i64 ((pre.length : Int) + 1))
      rw [List.length_append]
      simpa using this, hnd⟩, HI.out.1.setCell (p := ⟨w.heap.size + 1, 0, none⟩) (Nat.le_succ _) _, HI.out.2⟩⟩
  case done =>
    rintro D D1 W hD ⟨⟨hb, _⟩, hI⟩ hdef
    rw [Nd.walk_len] at hb
    have c1 := hb.cell
    have HI := Lib.hid hI; have HD := Lib.hid hdef
    clear hI hdef hb
    gi_wp2
    refine ⟨by simp, .inl ⟨_, _, rfl, run_takeDeferred HD.out, ?_⟩⟩
    have hg := grownBy_putObj' W D (.deferred none)
    exact ⟨_, results_tmp rfl _ _ _, rfl, HI.out.1.grown hg HI.out.1.size (fun j e => by cases e; omega)⟩

theorem count_calls (x : Nd) (hct : x.count ≤ 1000000) (w : World) (v : Value) (hu : NdAt (Lt w.heap.size) w x v) :
    Calls Tryd.prog 20 #[v] w fun e w' => e = .returned (.int .i64 (x.count : Int)) ∧ Below w.heap.size w w' :=
  callsIn_wide.1 (count_in 3 (Nat.le_refl _) x hct w v hu)
end Go.Proofs.YtbdkemgfdghbkaaDoor.nd
