/-
  Ranges over functions whose iterator has blocks of its own, named as it goes (D), which it may turn between two rounds; the body never leaves, and may lean on what has been told. No program.
-/
import Derived.Test.YtbdkemgfdghbkaaDoorSeqX
namespace Go.Proofs.YtbdkemgfdghbkaaDoor.sx
open Go.RowKit
set_option linter.unusedVariables false

/-- What J says is not of the iterator's own blocks; D: those. -/
def AbD {β : Type} (J : β → (Nat → Prop) → World → Prop) : Prop := ∀ s D D' A B, J s D A → But A.heap.size D A B → (∀ k, D' k → D k ∨ A.heap.size ≤ k) → J s D' B
/-- What the iterator asks of a round: all below n stays, and its own blocks. -/
def KD (n : Nat) (D : Nat → Prop) (W W' : World) : Prop := Below n W W' ∧ ∀ k, D k → k < W.heap.size → W'.heap[k]? = W.heap[k]?
theorem KD.refl (n : Nat) (D : Nat → Prop) (W : World) : KD n D W W := ⟨Below.refl _ _, fun _ _ _ => rfl⟩
theorem KD.trans {n : Nat} {D : Nat → Prop} {A B C : World} (h : KD n D A B) (k : KD n D B C) : KD n D A C :=
  ⟨h.1.trans k.1, fun i hi hl => (k.2 i hi (Nat.lt_of_lt_of_le hl h.1.size)).trans (h.2 i hi hl)⟩
theorem KD.of_below {n : Nat} {D : Nat → Prop} {W W' : World} (h : Below W.heap.size W W') (hn : n ≤ W.heap.size) : KD n D W W' := ⟨h.mono hn, fun k _ hk => h.block k hk⟩
theorem KD.grown {n : Nat} {D : Nat → Prop} {W W' : World} {row : Option Nat} (h : W.grownBy W' row) (hn : n ≤ W.heap.size) (hr : ∀ k, row = some k → n ≤ k ∧ ¬ D k) : KD n D W W' :=
  ⟨(Below.refl n W).grown h hn (fun k e => (hr k e).1), fun k hk hl => h.block k hl (fun e => (hr k e.symm).2 hk)⟩
theorem KD.put {n l : Nat} {D : Nat → Prop} {W : World} (o o' : Obj) (hn : n ≤ l) (hD : ¬ D l) (h : W.heap[l]? = some o) : KD n D W (W.putObj l o') :=
  ⟨(Below.refl n W).grown (grownBy_putObj' W l o') (by have := (Array.getElem?_eq_some_iff.1 h).1; omega) (fun j e => by cases e; omega), fun k hk hl => (grownBy_putObj' W l o').block k hl (fun e => by cases e; exact hD hk)⟩
theorem KD.setCell {n : Nat} {D : Nat → Prop} {W : World} {p : Addr} (hn : n ≤ p.block) (hD : ¬ D p.block) (v : Value) : KD n D W (W.setCell p v) :=
  ⟨(Below.refl n W).setCell hn v, fun k hk hl => Below.heap_setCell _ _ _ k (fun e => hD (e ▸ hk))⟩

/-- An iterator that tells just ys, to a body that never leaves. -/
def SeqD {α : Type} (F : Fence) (n : Nat) (P : Program) (g : Nat) (lb : Array Value) (Tells : α → (Nat → Prop) → World → Array Value → Prop) (n0 : Nat) (ys : List α) (w : World) : Prop :=
  ∀ (l : Nat) (J : List α → (Nat → Prop) → World → Prop) (W : World), Below w.heap.size w W → AbD J →
    (∀ pre x rest D W1 vs, ys = pre ++ x :: rest → J pre D W1 → (∀ k, D k → W.heap.size ≤ k ∧ k < W1.heap.size) → Tells x D W1 vs →
      YieldAt F (n - 1) P l vs W1 fun e W' => e = .returned (.bool true) ∧ J (pre ++ [x]) D W' ∧ KD n0 D W1 W') →
    J [] (fun _ => False) W → CallsIn F n P g (#[.func (.yield l) #[] #[]] ++ lb) W fun e W' => (∃ v, e = .returned v) ∧ ∃ D, J ys D W'

section
variable {F : Fence} {n : Nat} {P : Program} {w : World}

/-- A range over such an iterator. -/
theorem wpIn_rangeFunc_D {α : Type} {g : Operand} {ps : Array Tmp} {assign body : Code} {Q : Exit → Act → World → Prop} {a : Act}
    (hro : F.round = none) (h1 : 1 ≤ n) {gf : Nat} {lb : Array Value} (hg : a.eval g = .func (.func gf) #[] lb) (hFg : F.fn gf) (eg : ∀ args w, (callFunc gf args).run P w = .ok (.enter gf args) w)
    {Tells : α → (Nat → Prop) → World → Array Value → Prop} {n0 : Nat} {ys : List α} {w0 : World} (hseq : SeqD F (n - 1) P gf lb Tells n0 ys w0)
    (hn0 : n0 ≤ w.heap.size) (hb0 : Below w0.heap.size w0 w) (hps : ∀ x D W vs, Tells x D W vs → vs.size = ps.size)
    (I : List α → (Nat → Prop) → World → Prop) (hI : AbD I) (hIo : ∀ D, OwnFrom w.heap.size (fun s W => I s D W)) (h0 : I [] (fun _ => False) w)
    (Ax : α → (Nat → Prop) → Array Value → Act → World → Prop) (hAx : ∀ x D vs a', OwnFrom w.heap.size (fun (_ : Unit) W => Ax x D vs a' W))
    (hassign : ∀ (l : Nat) (pre : List α) (x : α) (D : Nat → Prop) (W : World) (vs : Array Value) (K : Act → World → Prop), I pre D W → (∀ k, D k → w.heap.size ≤ k ∧ k < W.heap.size) → Tells x D W vs →
      (∀ a' W', KeepsFrom w.heap.size W W' → KD n0 D W W' → I pre D W' → Ax x D vs a' W' → K a' W') →
      assign.wpIn (F.inRound l) (n - 1 - 1) P (Exit.then K (fun _ _ _ => False)) { tmps := (ps.zip vs).foldl (fun t (p, v) => t.setIfInBounds p v) a.tmps, defers := [] } W)
    (hbody : ∀ (l : Nat) (pre : List α) (x : α) (rest : List α) (D : Nat → Prop) (vs : Array Value) (a' : Act) (W : World), ys = pre ++ x :: rest → w.heap.size ≤ l → I pre D W → (∀ k, D k → w.heap.size ≤ k ∧ k < W.heap.size) → Ax x D vs a' W →
      body.wpIn (F.inRound l) (n - 1 - 1) P (fun e _ W3 => e = .normal ∧ KeepsFrom w.heap.size W W3 ∧ KD n0 D W W3 ∧ I (pre ++ [x]) D W3) a' W)
    (hdone : ∀ (D : Nat) (D1 : Nat → Prop) (W : World), w.heap.size ≤ D → I ys D1 W → W.heap[D]? = some (.deferred (some [])) → Q .normal { a with defers := { target := .collected D, args := #[] } :: a.defers } W) :
    (Code.rangeFunc g ps assign body).wpIn F n P Q a w := by
  refine wpIn_rangeFunc fun fn hfn => ?_
  rw [hro]
  let L : LoopState → Loop := fun st => { state := st, pending := none, fn, tmps := a.tmps, params := ps, assign, body, defers := w.heap.size }
  let W1 := (w.alloc (.deferred (some []))).alloc (.loop (L .ready))
  have hL1 : W1.heap[w.heap.size + 1]? = some (.loop (L .ready)) := by
    have := World.alloc_heap_new (w.alloc (.deferred (some []))) (.loop (L .ready)); rwa [World.size_alloc] at this
  have hD1 : W1.heap[w.heap.size]? = some (.deferred (some [])) := (Below.heap_alloc _ _ _ (by simp)).trans (World.alloc_heap_new w _)
  have hb1 : Below w0.heap.size w0 W1 := hb0.trans ((((Below.refl _ w).alloc (Nat.le_refl _) _).alloc (by simp) _).mono hb0.size)
  have hs1 : W1.heap.size = w.heap.size + 2 := by simp [W1]
  refine ⟨w.heap.size + 1, [{ target := .collected w.heap.size, args := #[] }], W1, { target := .fn (.func gf) lb, args := #[.func (.yield (w.heap.size + 1)) #[] #[]] }, W1, gf,
    #[.func (.yield (w.heap.size + 1)) #[] #[]] ++ lb, W1, run_enterLoop_outer _ _ _ _ _, ?_, ?_, ?_, fun _ => h1, ?_⟩
  · simp only [resolve, hg]
    simp [go_sem]
  · intro f' hf'; simp [Target.leads] at hf'; subst hf'; exact hFg
  · simp [invoke, go_sem, eg]
  · refine (hseq (w.heap.size + 1) (fun pre D W => I pre D W ∧ W.heap[w.heap.size + 1]? = some (.loop (L .ready)) ∧ W.heap[w.heap.size]? = some (.deferred (some [])) ∧ ¬ D (w.heap.size + 1) ∧ ¬ D w.heap.size) W1 hb1 ?_ ?_ ⟨(hIo _).alloc _ ((hIo _).alloc _ h0), hL1, hD1, id, id⟩).mono ?_
    · rintro s D D' A B ⟨hi, hl, hk, hd1, hd2⟩ hbt hD'
      have hl1 := (Array.getElem?_eq_some_iff.1 hl).1
      have hl2 := (Array.getElem?_eq_some_iff.1 hk).1
      refine ⟨hI s D D' A B hi hbt hD', (hbt.block _ hl1 hd1).trans hl, (hbt.block _ hl2 hd2).trans hk, fun h => ?_, fun h => ?_⟩
      · rcases hD' _ h with h | h
        · exact hd1 h
        · omega
      · rcases hD' _ h with h | h
        · exact hd2 h
        · omega
    · rintro pre x rest D W vs hys ⟨hi, hl, hk, hd1, hd2⟩ hDl hT
      have hDl' : ∀ k, D k → w.heap.size ≤ k ∧ k < W.heap.size := fun k hk => ⟨by have := (hDl k hk).1; omega, (hDl k hk).2⟩
      have hy := run_yield (P := P) (args := vs) hl (hps x D W vs hT)
      refine ⟨fn, _, assign, body, hy, roundIn_of_wpIn hfn (hassign _ pre x D W vs _ hi hDl' hT ?_)⟩
      intro a' V hkf hkp hiV hax
      have hlV := hkf.same _ _ (by omega) hl rfl
      have hkV := hkf.same _ _ (Nat.le_refl _) hk rfl
      have hltV : w.heap.size + 1 < V.heap.size := (Array.getElem?_eq_some_iff.1 hlV).1
      refine ⟨_, run_beginRound hlV rfl, ?_⟩
      have hl2 : (V.putObj (w.heap.size + 1) (.loop (L .busy))).heap[w.heap.size + 1]? = some (.loop (L .busy)) := World.putObj_heap_same hltV
      have hk2 : (V.putObj (w.heap.size + 1) (.loop (L .busy))).heap[w.heap.size]? = some (.deferred (some [])) := (World.putObj_heap_other (by omega)).trans hkV
      have hDv : ∀ k, D k → w.heap.size ≤ k ∧ k < (V.putObj (w.heap.size + 1) (.loop (L .busy))).heap.size := fun k hk => ⟨(hDl' k hk).1, by
        have h1 := (hDl' k hk).2
        have h2 := hkp.1.size
        have h3 := (grownBy_putObj' V (w.heap.size + 1) (.loop (L .busy))).size
        omega⟩
      refine wpIn_mono (hbody _ pre x rest D vs a' _ hys (by omega) ((hIo D).putObj _ hiV (by omega) hlV rfl) hDv ((hAx x D vs a').putObj (s := ()) _ hax (by omega) hlV rfl)) ?_
      rintro e a3 W3 ⟨rfl, hk3, hkp3, hi3⟩
      have hl3 := hk3.same _ _ (by omega) hl2 rfl
      have hd3 := hk3.same _ _ (Nat.le_refl _) hk2 rfl
      refine ⟨_, _, run_endRound (P := P) none hl3, rfl, ⟨(hIo D).putObj _ hi3 (by omega) hl3 rfl, World.putObj_heap_same (Array.getElem?_eq_some_iff.1 hl3).1, (World.putObj_heap_other (by omega)).trans hd3, hd1, hd2⟩,
        hkp.trans (((KD.put _ _ (by omega) hd1 hlV).trans hkp3).trans (KD.put _ _ (by omega) hd1 hl3))⟩
    · rintro e W2 ⟨⟨v, rfl⟩, D, hi, hl, hk, _⟩
      exact ⟨none, _, run_endLoop (P := P) hl (by simp [L]), hdone _ D _ (Nat.le_refl _) ((hIo D).putObj _ hi (by omega) hl rfl) ((World.putObj_heap_other (by omega)).trans hk)⟩
end

end Go.Proofs.YtbdkemgfdghbkaaDoor.sx
