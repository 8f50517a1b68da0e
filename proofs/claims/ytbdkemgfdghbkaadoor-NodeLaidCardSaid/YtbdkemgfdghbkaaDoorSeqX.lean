/-
  Ranges over functions whose iterator writes memory of its own between the rounds, and whose body may leave. No program.
-/
import Derived.RangeFuncNested
import Derived.RangeFuncBound
import Derived.RangeFuncCalls
import Derived.RangeFuncLeaves
import Derived.RangeFuncBox
import Derived.OwnWalkIn
import Derived.TacticsInMore
namespace Go.Proofs.YtbdkemgfdghbkaaDoor.sx
open Go.RowKit
set_option linter.unusedVariables false

/-- All blocks below B are as they were, but those that S names. -/
structure But (B : Nat) (S : Nat → Prop) (w w' : World) : Prop where
  os : w'.os = w.os
  tape : w'.tape = w.tape
  output : w'.output = w.output
  size : w.heap.size ≤ w'.heap.size
  block : ∀ k, k < B → ¬ S k → w'.heap[k]? = w.heap[k]?

theorem But.refl (B : Nat) (S : Nat → Prop) (w : World) : But B S w w := ⟨rfl, rfl, rfl, Nat.le_refl _, fun _ _ _ => rfl⟩
theorem But.trans {B : Nat} {S : Nat → Prop} {a b c : World} (h : But B S a b) (k : But B S b c) : But B S a c :=
  ⟨k.os.trans h.os, k.tape.trans h.tape, k.output.trans h.output, Nat.le_trans h.size k.size, fun i hi hs => (k.block i hi hs).trans (h.block i hi hs)⟩
theorem But.mono {B B' : Nat} {S S' : Nat → Prop} {a b : World} (h : But B S a b) (hB : B' ≤ B) (hS : ∀ k, k < B' → S k → S' k) : But B' S' a b :=
  ⟨h.os, h.tape, h.output, h.size, fun i hi hs => h.block i (by omega) (fun e => hs (hS i hi e))⟩
theorem But.of_below {B : Nat} {S : Nat → Prop} {a b : World} (h : Below B a b) : But B S a b := ⟨h.os, h.tape, h.output, h.size, fun k hk _ => h.block k hk⟩
theorem But.next {B : Nat} {S : Nat → Prop} {a b c : World} (h : But B S a b) (k : Below b.heap.size b c) (hB : B ≤ a.heap.size) : But B S a c :=
  h.trans (But.of_below (k.mono (Nat.le_trans hB h.size)))
theorem But.alloc {B : Nat} {S : Nat → Prop} {a b : World} (h : But B S a b) (hB : B ≤ a.heap.size) (o : Obj) : But B S a (b.alloc o) :=
  h.next ((Below.refl _ b).alloc (Nat.le_refl _) o) hB
theorem But.setCell {B : Nat} {S : Nat → Prop} {a b : World} (h : But B S a b) {p : Addr} (hp : p.block < B → S p.block) (v : Value) : But B S a (b.setCell p v) :=
  h.trans ⟨rfl, rfl, rfl, by simp, fun k hk hs => Below.heap_setCell _ _ _ k (fun e => by subst e; exact hs (hp hk))⟩
theorem But.drew {B : Nat} {S : Nat → Prop} {a b : World} (h : But B S a b) : But B S a b.drew := h.trans ⟨rfl, rfl, rfl, Nat.le_refl _, fun _ _ _ => rfl⟩
theorem But.grown {B : Nat} {S : Nat → Prop} {a b c : World} {row : Option Nat} (h : But B S a b) (hg : b.grownBy c row) (hB : B ≤ a.heap.size) (hr : ∀ k, row = some k → k < B → S k) : But B S a c :=
  h.trans ⟨hg.os, hg.tape, hg.output, hg.size, fun k hk hs => hg.block k (Nat.lt_of_lt_of_le hk (Nat.le_trans hB h.size)) (fun e => hs (hr k e.symm hk))⟩

/-- A block of cells, whole. -/
def Blk (W : World) (B : Nat) (t : TypeId) (vs : Array Value) : Prop := W.heap[B]? = some (.cells vs t (0, 0))
theorem Blk.lt {W : World} {B : Nat} {t : TypeId} {v : Array Value} (h : Blk W B t v) : B < W.heap.size := (Array.getElem?_eq_some_iff.1 h).1
theorem Blk.cell {W : World} {B : Nat} {t : TypeId} {v : Array Value} (h : Blk W B t v) (i : Nat) : W.cell? ⟨B, i, none⟩ = v[i]? := by simp [World.cell?, show W.heap[B]? = _ from h]
theorem Blk.frozen {W : World} {B : Nat} {t : TypeId} {v : Array Value} (h : Blk W B t v) (i : Nat) : W.frozen? ⟨B, i, none⟩ = false := by simp [World.frozen?, show W.heap[B]? = _ from h]
theorem Blk.new (W : World) (t : TypeId) (v : Array Value) : Blk (W.alloc (.cells v t)) W.heap.size t v := World.alloc_heap_new W _
theorem Blk.kept {W W' : World} {row : Option Nat} {B : Nat} {t : TypeId} {v : Array Value} (h : Blk W B t v) (hg : W.grownBy W' row) (hne : some B ≠ row) : Blk W' B t v := (hg.block B h.lt hne).trans h
theorem Blk.alloc {W : World} {B : Nat} {t : TypeId} {v : Array Value} (h : Blk W B t v) (o : Obj) : Blk (W.alloc o) B t v := h.kept (World.grownBy_alloc W o none) (by simp)
theorem blk_own {β : Type} (B : Nat) (t : TypeId) (f : β → Array Value) : Own (fun s W => Blk W B t (f s)) := fun s X Y row hs hg hrow =>
  hs.kept hg (fun e' => by obtain ⟨o, ho, hc⟩ := hrow B e'.symm; rw [show X.heap[B]? = _ from hs] at ho; cases ho; cases hc)
theorem Blk.below {W W' : World} {n B : Nat} {t : TypeId} {v : Array Value} (h : Blk W B t v) (hb : Below n W W') (hn : B < n) : Blk W' B t v := (hb.block B hn).trans h
theorem Blk.own {W W' : World} {B : Nat} {t : TypeId} {v : Array Value} (h : Blk W B t v) (hb : Below W.heap.size W W') : Blk W' B t v := h.below hb h.lt
theorem Blk.drew' {W : World} {B : Nat} {t : TypeId} {v : Array Value} (h : Blk W B t v) : Blk W.drew B t v := h
theorem Blk.other {W : World} {B b o : Nat} {t : TypeId} {v : Array Value} (h : Blk W B t v) (hne : B ≠ b) (x : Value) : Blk (W.setCell ⟨b, o, none⟩ x) B t v :=
  (Below.heap_setCell _ _ _ B (fun e => hne e)).trans h
theorem Blk.set {W : World} {B o : Nat} {t : TypeId} {v : Array Value} (h : Blk W B t v) (x : Value) : Blk (W.setCell ⟨B, o, none⟩ x) B t (v.setIfInBounds o x) := by
  unfold Blk at h ⊢
  show (W.heap.modify B _)[B]? = _
  rw [Array.getElem?_modify, if_pos rfl, h]
  rfl
theorem Blk.but {W W' : World} {S : Nat → Prop} {B : Nat} {t : TypeId} {v : Array Value} (h : Blk W B t v) (hb : But W.heap.size S W W') (hs : ¬ S B) : Blk W' B t v := (hb.block B h.lt hs).trans h

/-- What the iterator may turn: cells beyond N of another type than T. -/
def Ours (N : Nat) (T : TypeId) (W : World) (k : Nat) : Prop := N ≤ k ∧ ∃ vs t f, W.heap[k]? = some (.cells vs t f) ∧ t ≠ T
theorem Ours.mono {N N' : Nat} {T : TypeId} {W : World} {k : Nat} (h : Ours N T W k) (hN : N' ≤ N) : Ours N' T W k := ⟨Nat.le_trans hN h.1, h.2⟩
theorem Blk.ours {W : World} {N B : Nat} {t T : TypeId} {v : Array Value} (h : Blk W B t v) (hN : N ≤ B) (ht : t ≠ T) : Ours N T W B := ⟨hN, v, t, (0, 0), h, ht⟩
/-- What J says is not of what the iterator may turn. -/
def AbX {β : Type} (N : Nat) (T : TypeId) (J : β → World → Prop) : Prop := ∀ s A B S, J s A → But A.heap.size S A B → (∀ k, S k → Ours N T A k) → J s B
theorem AbX.below {β : Type} {N : Nat} {T : TypeId} {J : β → World → Prop} (h : AbX N T J) {s : β} {A B : World} (hs : J s A) (hb : Below A.heap.size A B) : J s B :=
  h s A B (fun _ => False) hs (But.of_below hb) (fun _ e => e.elim)
theorem AbX.and {β : Type} {N : Nat} {T : TypeId} {I I' : β → World → Prop} (h : AbX N T I) (h' : AbX N T I') : AbX N T (fun s W => I s W ∧ I' s W) := fun s A B S hs hb hS => ⟨h s A B S hs.1 hb hS, h' s A B S hs.2 hb hS⟩
theorem abX_pure {β : Type} (N : Nat) (T : TypeId) (p : β → Prop) : AbX N T (fun s (_ : World) => p s) := fun _ _ _ _ hs _ _ => hs
theorem abX_below {β : Type} {N : Nat} {T : TypeId} {n0 : Nat} {w : World} (h0 : n0 ≤ N) (hw : n0 ≤ w.heap.size) : AbX (β := β) N T (fun _ W => Below n0 w W) := fun s A B S hs hb hS =>
  hs.trans ⟨hb.os, hb.tape, hb.output, hb.size, fun k hk => hb.block k (Nat.lt_of_lt_of_le hk (Nat.le_trans hw hs.size)) (fun e => by have := (hS k e).1; omega)⟩
theorem abX_boxed {β : Type} {N : Nat} {T : TypeId} {B : Nat} (hB : B < N) (t : TypeId) (f : β → Value) : AbX N T (fun s W => Boxed W B t (f s)) := fun s X Y S hs hb hS =>
  (hb.block B (Boxed.lt hs) (fun e => by have := (hS B e).1; omega)).trans hs
theorem abX_blk {β : Type} {N : Nat} {T : TypeId} {B : Nat} (hB : B < N) (t : TypeId) (f : β → Array Value) : AbX N T (fun s W => Blk W B t (f s)) := fun s X Y S hs hb hS =>
  Blk.but hs hb (fun e => by have := (hS B e).1; omega)

/-- What the iterator asks of a round: all below n stays; so does what is beyond, but blocks that X names and those of type T. -/
def KX (n : Nat) (X : Nat → Prop) (T : TypeId) (W W' : World) : Prop := Below n W W' ∧ ∀ k vs t, n ≤ k → ¬ X k → t ≠ T → Blk W k t vs → Blk W' k t vs
theorem KX.refl (n : Nat) (X : Nat → Prop) (T : TypeId) (W : World) : KX n X T W W := ⟨Below.refl _ _, fun _ _ _ _ _ _ h => h⟩
theorem KX.trans {n : Nat} {X : Nat → Prop} {T : TypeId} {A B C : World} (h : KX n X T A B) (k : KX n X T B C) : KX n X T A C := ⟨h.1.trans k.1, fun a b c d e f g => k.2 a b c d e f (h.2 a b c d e f g)⟩
theorem KX.blk {n : Nat} {X : Nat → Prop} {T : TypeId} {W W' : World} {B : Nat} {t : TypeId} {v : Array Value} (h : KX n X T W W') (hb : Blk W B t v) (hX : ¬ X B) (ht : t ≠ T) : Blk W' B t v := by
  rcases Nat.lt_or_ge B n with hl | hl
  · exact hb.below h.1 hl
  · exact h.2 _ _ _ hl hX ht hb
theorem KX.put {n : Nat} {X : Nat → Prop} {T : TypeId} {B : Nat} (hB : n ≤ B) (W : World) (l : Nat) (o o' : Obj) (hl : B ≤ l) (h : W.heap[l]? = some o) (hc : o.isCells = false) (hw : o.isWalk = false) : KX n X T W (W.putObj l o') :=
  ⟨(Below.refl n W).grown (grownBy_putObj' W l o') (by have := (Array.getElem?_eq_some_iff.1 h).1; omega) (fun j e => by cases e; omega), fun k vs t _ _ _ hb => hb.kept (grownBy_putObj' _ l o') (fun e => by cases e; rw [show W.heap[_]? = _ from hb] at h; cases h; cases hc)⟩
theorem KX.of_below {n : Nat} (X : Nat → Prop) (T : TypeId) {W W' : World} (h : Below W.heap.size W W') (hn : n ≤ W.heap.size) : KX n X T W W' := ⟨h.mono hn, fun _ _ _ _ _ _ hb => hb.own h⟩
theorem KX.alloc {n : Nat} (X : Nat → Prop) (T : TypeId) (W : World) (o : Obj) (h : n ≤ W.heap.size) : KX n X T W (W.alloc o) := KX.of_below X T ((Below.refl _ W).alloc (Nat.le_refl _) _) h

/-- An iterator that tells just ys, to a body that may leave, and may lean on what has been told. -/
def SeqX {α : Type} (F : Fence) (n : Nat) (P : Program) (g : Nat) (lb : Array Value) (encs : α → Array Value) (T : TypeId) (Kp : World → World → Prop) (ys : List α) (w : World) : Prop :=
  ∀ (l : Nat) (J Jx : List α → World → Prop) (W : World), Below w.heap.size w W → AbX W.heap.size T J → AbX W.heap.size T Jx →
    (∀ pre x rest W1, ys = pre ++ x :: rest → J pre W1 → YieldAt F (n - 1) P l (encs x) W1 fun e W' =>
      (e = .returned (.bool true) ∧ J (pre ++ [x]) W' ∧ Kp W1 W') ∨ (e = .returned (.bool false) ∧ Jx (pre ++ [x]) W')) →
    J [] W → CallsIn F n P g (#[.func (.yield l) #[] #[]] ++ lb) W fun e W' => (∃ v, e = .returned v) ∧ (J ys W' ∨ ∃ pre x rest, ys = pre ++ x :: rest ∧ Jx (pre ++ [x]) W')

section
variable {F : Fence} {n : Nat} {P : Program} {w : World}

/-- A range over such an iterator. -/
theorem wpIn_rangeFunc_X {α : Type} {g : Operand} {ps : Array Tmp} {assign body : Code} {Q : Exit → Act → World → Prop} {a : Act}
    (hro : F.round = none) (h1 : 1 ≤ n) {gf : Nat} {lb : Array Value} (hg : a.eval g = .func (.func gf) #[] lb) (hFg : F.fn gf) (eg : ∀ args w, (callFunc gf args).run P w = .ok (.enter gf args) w)
    {encs : α → Array Value} {T : TypeId} {Kp : World → World → Prop} {ys : List α} {w0 : World} (hseq : SeqX F (n - 1) P gf lb encs T Kp ys w0)
    (hKt : ∀ {A B C : World}, Kp A B → Kp B C → Kp A C) (hKb : ∀ (W : World) (l : Nat) (o o' : Obj), w.heap.size ≤ l → W.heap[l]? = some o → o.isCells = false → o.isWalk = false → Kp W (W.putObj l o'))
    (hb0 : Below w0.heap.size w0 w) (hps : ∀ x, (encs x).size = ps.size)
    (I : List α → World → Prop) (Ix : Code → List α → World → Prop) (hI : OwnFrom w.heap.size I) (hIx : ∀ c, OwnFrom w.heap.size (Ix c)) (hIa : AbX w.heap.size T I) (hIxa : ∀ c, AbX w.heap.size T (Ix c))
    (h0 : I [] w) (Ax : α → Act → World → Prop) (hAx : ∀ x a', OwnFrom w.heap.size (fun (_ : Unit) W => Ax x a' W))
    (hassign : ∀ (l : Nat) (pre : List α) (x : α) (rest : List α) (W : World) (K : Act → World → Prop), ys = pre ++ x :: rest → I pre W → (∀ a' W', KeepsFrom w.heap.size W W' → Kp W W' → I pre W' → Ax x a' W' → K a' W') →
      assign.wpIn (F.inRound l) (n - 1 - 1) P (Exit.then K (fun _ _ _ => False)) { tmps := (ps.zip (encs x)).foldl (fun t (p, v) => t.setIfInBounds p v) a.tmps, defers := [] } W)
    (hbody : ∀ (l : Nat) (pre : List α) (x : α) (rest : List α) (a' : Act) (W : World), ys = pre ++ x :: rest → w.heap.size ≤ l → (∃ r, W.heap[l]? = some (.loop r)) → I pre W → Ax x a' W →
      body.wpIn (F.inRound l) (n - 1 - 1) P (ownPostG w.heap.size Kp I Ix (pre ++ [x]) W) a' W)
    (hdone : ∀ (D : Nat) (W : World), w.heap.size ≤ D → I ys W → W.heap[D]? = some (.deferred (some [])) → Q .normal { a with defers := { target := .collected D, args := #[] } :: a.defers } W)
    (hstop : ∀ (D : Nat) (c : Code) (pre : List α) (x : α) (rest : List α) (W : World), ys = pre ++ x :: rest → w.heap.size ≤ D → Ix c (pre ++ [x]) W → W.heap[D]? = some (.deferred (some [])) →
      c.wpIn F n P Q { a with defers := { target := .collected D, args := #[] } :: a.defers } W) :
    (Code.rangeFunc g ps assign body).wpIn F n P Q a w := by
  refine wpIn_rangeFunc ?_
  intro fn hfn
  rw [hro]
  obtain ⟨rec, hrec⟩ : ∃ rec : LoopState → Option Code → Loop, rec = fun st pe => { state := st, pending := pe, fn, tmps := a.tmps, params := ps, assign, body, defers := w.heap.size } := ⟨_, rfl⟩
  obtain ⟨W1, hW1⟩ : ∃ W1, (w.alloc (.deferred (some []))).alloc (.loop (rec .ready none)) = W1 := ⟨_, rfl⟩
  have hL1 : W1.heap[w.heap.size + 1]? = some (.loop (rec .ready none)) := by
    rw [← hW1]; have := World.alloc_heap_new (w.alloc (.deferred (some []))) (.loop (rec .ready none)); rwa [World.size_alloc] at this
  have hK1 : W1.heap[w.heap.size]? = some (.deferred (some [])) := by
    rw [← hW1]; exact (Below.heap_alloc _ _ _ (by simp)).trans (World.alloc_heap_new w _)
  have hI1 : I [] W1 := by rw [← hW1]; exact hI.alloc _ (hI.alloc _ h0)
  have hs1 : W1.heap.size = w.heap.size + 2 := by rw [← hW1]; simp
  have hb1 : Below w0.heap.size w0 W1 := by
    rw [← hW1]; exact hb0.trans ((((Below.refl _ w).alloc (Nat.le_refl _) _).alloc (by simp) _).mono hb0.size)
  refine ⟨w.heap.size + 1, [{ target := .collected w.heap.size, args := #[] }], W1, { target := .fn (.func gf) lb, args := #[.func (.yield (w.heap.size + 1)) #[] #[]] }, W1, gf,
    #[.func (.yield (w.heap.size + 1)) #[] #[]] ++ lb, W1, ?_, ?_, ?_, ?_, fun _ => h1, ?_⟩
  · rw [← hW1, hrec]; exact run_enterLoop_outer _ _ _ _ _
  · simp only [resolve, hg]
    simp [go_sem]
  · intro f' hf'; simp [Target.leads] at hf'; subst hf'; exact hFg
  · simp [invoke, go_sem, eg]
  · have hkeep : ∀ {A B : World} {S : Nat → Prop} (hb : But A.heap.size S A B) (hS : ∀ k, S k → Ours W1.heap.size T A k) (k : Nat) (o : Obj), k < W1.heap.size → A.heap[k]? = some o → B.heap[k]? = some o :=
      fun hb hS k o hk ho => (hb.block k (Array.getElem?_eq_some_iff.1 ho).1 (fun e => by have := (hS k e).1; omega)).trans ho
    refine (hseq (w.heap.size + 1)
      (fun pre W => I pre W ∧ W.heap[w.heap.size + 1]? = some (.loop (rec .ready none)) ∧ W.heap[w.heap.size]? = some (.deferred (some [])))
      (fun pre W => ∃ c, Ix c pre W ∧ W.heap[w.heap.size + 1]? = some (.loop (rec .done (some c))) ∧ W.heap[w.heap.size]? = some (.deferred (some [])))
      W1 hb1
      (fun s A B S hs hb hS => ⟨hIa s A B S hs.1 hb (fun k e => (hS k e).mono (by omega)), hkeep hb hS _ _ (by omega) hs.2.1, hkeep hb hS _ _ (by omega) hs.2.2⟩)
      (fun s A B S hs hb hS => by
        obtain ⟨c, hc, hl, hk⟩ := hs
        exact ⟨c, hIxa c s A B S hc hb (fun k e => (hS k e).mono (by omega)), hkeep hb hS _ _ (by omega) hl, hkeep hb hS _ _ (by omega) hk⟩)
      ?_ ⟨hI1, hL1, hK1⟩).mono ?_
    · rintro pre x rest W hys ⟨hi, hl, hk⟩
      have hlt : w.heap.size + 1 < W.heap.size := (Array.getElem?_eq_some_iff.1 hl).1
      have hy := run_yield (P := P) (args := encs x) hl (by rw [hrec]; exact hps x)
      rw [hrec] at hy
      refine ⟨fn, _, assign, body, hy, roundIn_of_wpIn hfn (hassign _ pre x rest W _ hys hi ?_)⟩
      clear hy
      intro a' Wa hkfa hkpa hia hax
      replace hl := hkfa.same _ _ (by omega) hl rfl
      replace hk := hkfa.same _ _ (Nat.le_refl _) hk rfl
      replace hlt : w.heap.size + 1 < Wa.heap.size := (Array.getElem?_eq_some_iff.1 hl).1
      replace hi := hia
      clear hia
      revert hkpa hkfa
      generalize W = Wb
      intro hkfa hkpa
      obtain ⟨W, rfl⟩ : ∃ W, W = Wa := ⟨_, rfl⟩
      refine ⟨_, run_beginRound hl (by rw [hrec]), ?_⟩
      have hl2 : (W.putObj (w.heap.size + 1) (.loop { rec .ready none with state := .busy })).heap[w.heap.size + 1]? = some (.loop { rec .ready none with state := .busy }) := World.putObj_heap_same hlt
      have hk2 : (W.putObj (w.heap.size + 1) (.loop { rec .ready none with state := .busy })).heap[w.heap.size]? = some (.deferred (some [])) := (World.putObj_heap_other (by omega)).trans hk
      have hw2 : Kp W (W.putObj (w.heap.size + 1) (.loop { rec .ready none with state := .busy })) := hKb _ _ _ _ (by omega) hl rfl rfl
      refine wpIn_mono (hbody _ pre x rest a' _ hys (by omega) ⟨_, hl2⟩ (hI.putObj _ hi (by omega) hl rfl) ((hAx x a').putObj (s := ()) _ hax (by omega) hl rfl)) ?_
      have fin : ∀ (jump : Option Code) (W3 : World), KeepsFrom w.heap.size (W.putObj (w.heap.size + 1) (.loop { rec .ready none with state := .busy })) W3 →
          (Instr.endRound (w.heap.size + 1) jump).run P W3 = .ok (.bool jump.isNone) (W3.putObj (w.heap.size + 1) (.loop (rec (if jump.isNone then .ready else .done) jump))) ∧
          W3.heap[w.heap.size + 1]? = some (.loop { rec .ready none with state := .busy }) ∧
          (W3.putObj (w.heap.size + 1) (.loop (rec (if jump.isNone then .ready else .done) jump))).heap[w.heap.size + 1]? = some (.loop (rec (if jump.isNone then .ready else .done) jump)) ∧
          (W3.putObj (w.heap.size + 1) (.loop (rec (if jump.isNone then .ready else .done) jump))).heap[w.heap.size]? = some (.deferred (some [])) := fun jump W3 hk3 => by
        have hl3 := hk3.same _ _ (by omega) hl2 rfl
        have := run_endRound (P := P) jump hl3
        rw [hrec] at this ⊢
        exact ⟨this, by rw [hrec] at hl3; exact hl3, World.putObj_heap_same (Array.getElem?_eq_some_iff.1 hl3).1, (World.putObj_heap_other (by omega)).trans (hk3.same _ _ (Nat.le_refl _) hk2 rfl)⟩
      rintro e a3 W3 hp
      cases e with
      | normal =>
        obtain ⟨hk3, hkp3, hi3⟩ := hp
        obtain ⟨hr, hl3, hl4, hk4⟩ := fin none W3 hk3
        exact ⟨_, _, hr, .inl ⟨rfl, ⟨hI.putObj _ hi3 (by omega) hl3 rfl, hl4, hk4⟩, hKt hkpa (hKt (hKt hw2 hkp3) (hKb _ _ _ _ (by omega) hl3 rfl rfl))⟩⟩
      | ret =>
        obtain ⟨hk3, hi3⟩ := hp
        obtain ⟨hr, hl3, hl4, hk4⟩ := fin (some .ret) W3 hk3
        exact ⟨_, _, hr, .inr ⟨rfl, .ret, (hIx _).putObj _ hi3 (by omega) hl3 rfl, hl4, hk4⟩⟩
      | exit id =>
        obtain ⟨hk3, hi3⟩ := hp
        obtain ⟨hr, hl3, hl4, hk4⟩ := fin (some (.exit id)) W3 hk3
        exact ⟨_, _, hr, .inr ⟨rfl, .exit id, (hIx _).putObj _ hi3 (by omega) hl3 rfl, hl4, hk4⟩⟩
      | goto t =>
        obtain ⟨hk3, hi3⟩ := hp
        obtain ⟨hr, hl3, hl4, hk4⟩ := fin (some (.goto t)) W3 hk3
        exact ⟨_, _, hr, .inr ⟨rfl, .goto t, (hIx _).putObj _ hi3 (by omega) hl3 rfl, hl4, hk4⟩⟩
      | panic ch => exact hp.elim
      | outgrown => exact hp.elim
    · rintro e W2 ⟨⟨v, rfl⟩, (⟨hi, hl, hk⟩ | ⟨pre, x, rest, hys, c, hi, hl, hk⟩)⟩
      · exact ⟨none, _, by have := run_endLoop (P := P) hl (by rw [hrec]; simp); rw [hrec] at this; exact this, hdone _ _ (Nat.le_refl _) (hI.putObj _ hi (by omega) hl rfl) ((World.putObj_heap_other (by omega)).trans hk)⟩
      · exact ⟨some c, _, by have := run_endLoop (P := P) hl (by rw [hrec]; simp); rw [hrec] at this; exact this, hstop _ c pre x rest _ hys (Nat.le_refl _) ((hIx c).putObj _ hi (by omega) hl rfl) ((World.putObj_heap_other (by omega)).trans hk)⟩
end

end Go.Proofs.YtbdkemgfdghbkaaDoor.sx
