/-
  edit.growth, edit.placed and the function that placed hands back: the contract of the iterator over edits, for whatever body.
-/
import Derived.RangeFuncNested
import Derived.RangeFuncBound
import Derived.RangeFuncCalls
import Derived.RangeFuncLeaves
import Derived.RangeFuncBox
import Derived.Shelf.Abstract
import Derived.Shelf.RegionOpen
import Derived.RegionTactic
import Derived.WalkKit
import Derived.OwnWalkIn
import Derived.TacticsInMore
import Derived.LoopNIn
import Derived.LoopIn
import Derived.Lib.Hide
import Derived.Test.YtepniobmhplphaaShelf
import Derived.Test.YtepniobmhplphaaEdSpec
namespace Go.Proofs.Ytepniobmhplphaa.ed
open Go.RowKit Go.Shelf
attribute [local go_sem] Oper.semAt_some
set_option linter.unusedVariables false

theorem EdsAt.below {n : Nat} {W W' : World} {v : Value} {l : List Ed} (h : EdsAt n W v l) (hb : Below n W W') : EdsAt n W' v l := by
  obtain ⟨ao, cap, h1, h2, h3⟩ := h
  refine ⟨ao, cap, h1, h2, fun i e he => ?_⟩
  obtain ⟨g, o, e1, hg, c0, c1, c2⟩ := h3 i e he
  exact ⟨g, o, e1, hg, (hb.cell (p := ⟨g, _, none⟩) hg).trans c0, (hb.cell (p := ⟨g, _, none⟩) hg).trans c1, (hb.cell (p := ⟨g, _, none⟩) hg).trans c2⟩

/-- A block of cells, whole. -/
def Blk (W : World) (B : Nat) (t : TypeId) (vs : Array Value) : Prop := W.heap[B]? = some (.cells vs t (0, 0))
theorem Blk.lt {W : World} {B : Nat} {t : TypeId} {v : Array Value} (h : Blk W B t v) : B < W.heap.size := (Array.getElem?_eq_some_iff.1 h).1
theorem Blk.cell {W : World} {B : Nat} {t : TypeId} {v : Array Value} (h : Blk W B t v) (i : Nat) : W.cell? ⟨B, i, none⟩ = v[i]? := by simp [World.cell?, show W.heap[B]? = _ from h]
theorem Blk.new (W : World) (t : TypeId) (v : Array Value) : Blk (W.alloc (.cells v t)) W.heap.size t v := World.alloc_heap_new W _
theorem Blk.kept {W W' : World} {row : Option Nat} {B : Nat} {t : TypeId} {v : Array Value} (h : Blk W B t v) (hg : W.grownBy W' row) (hne : some B ≠ row) : Blk W' B t v := (hg.block B h.lt hne).trans h
theorem Blk.alloc {W : World} {B : Nat} {t : TypeId} {v : Array Value} (h : Blk W B t v) (o : Obj) : Blk (W.alloc o) B t v := h.kept (World.grownBy_alloc W o none) (by simp)
theorem blk_own {β : Type} (B : Nat) (t : TypeId) (f : β → Array Value) : Own (fun s W => Blk W B t (f s)) := fun s X Y row hs hg hrow =>
  hs.kept hg (fun e' => by obtain ⟨o, ho, hc⟩ := hrow B e'.symm; rw [show X.heap[B]? = _ from hs] at ho; cases ho; cases hc)
theorem Blk.below {W W' : World} {n B : Nat} {t : TypeId} {v : Array Value} (h : Blk W B t v) (hb : Below n W W') (hn : B < n) : Blk W' B t v := (hb.block B hn).trans h

theorem Blk.drew' {W : World} {B : Nat} {t : TypeId} {v : Array Value} (h : Blk W B t v) : Blk W.drew B t v := h
theorem Blk.other {W : World} {B b o : Nat} {t : TypeId} {v : Array Value} (h : Blk W B t v) (hne : B ≠ b) (x : Value) : Blk (W.setCell ⟨b, o, none⟩ x) B t v :=
  (Below.heap_setCell _ _ _ B (fun e => hne e)).trans h

/-- What the iterator asks of a round: all below n stays; so does what is beyond, but blocks that X names and rows of bytes. -/
def KX (n : Nat) (X : Nat → Prop) (W W' : World) : Prop := Below n W W' ∧ ∀ k vs t, n ≤ k → ¬ X k → t ≠ 5 → Blk W k t vs → Blk W' k t vs
theorem KX.refl (n : Nat) (X : Nat → Prop) (W : World) : KX n X W W := ⟨Below.refl _ _, fun _ _ _ _ _ _ h => h⟩
theorem KX.trans {n : Nat} {X : Nat → Prop} {A B C : World} (h : KX n X A B) (k : KX n X B C) : KX n X A C := ⟨h.1.trans k.1, fun a b c d e f g => k.2 a b c d e f (h.2 a b c d e f g)⟩
theorem KX.blk {n : Nat} {X : Nat → Prop} {W W' : World} {B : Nat} {t : TypeId} {v : Array Value} (h : KX n X W W') (hb : Blk W B t v) (hX : ¬ X B) (ht : t ≠ 5) : Blk W' B t v := by
  rcases Nat.lt_or_ge B n with hl | hl
  · exact hb.below h.1 hl
  · exact h.2 _ _ _ hl hX ht hb
theorem KX.put {n : Nat} {X : Nat → Prop} {B : Nat} (hB : n ≤ B) (W : World) (l : Nat) (o o' : Obj) (hl : B ≤ l) (h : W.heap[l]? = some o) (hc : o.isCells = false) (hw : o.isWalk = false) : KX n X W (W.putObj l o') :=
  ⟨(Below.refl n W).grown (grownBy_putObj' W l o') (by have := (Array.getElem?_eq_some_iff.1 h).1; omega) (fun j e => by cases e; omega), fun k vs t _ _ _ hb => hb.kept (grownBy_putObj' _ l o') (fun e => by cases e; rw [show W.heap[_]? = _ from hb] at h; cases h; cases hc)⟩
theorem KX.alloc {n : Nat} (X : Nat → Prop) (W : World) (o : Obj) (h : n ≤ W.heap.size) : KX n X W (W.alloc o) := ⟨(Below.refl _ W).alloc h _, fun _ _ _ _ _ _ hb => hb.alloc o⟩

set_option maxHeartbeats 1000000 in
theorem growth_in (n : Nat) (e : Ed) (w : World) :
    CallsIn Fence.wide n Try.prog 27 #[edV e] w fun ee w' => ee = .returned (.int .i64 (grow e)) ∧ Below w.heap.size w w' := by
  refine callsIn_of_wp Try.func27 rfl trivial ?_ rfl
  simp only [Try.ntmps27, List.size_toArray, List.length_cons, List.length_nil, Nat.reduceAdd, Nat.reduceSub, Array.replicate_succ, Array.replicate_zero, List.push_toArray, List.append_toArray, List.nil_append, List.cons_append]
  gi_wp2
  go_ret
  exact ⟨by simp [grow], (Below.refl _ w).alloc (Nat.le_refl _) _⟩

set_option maxHeartbeats 1000000 in
theorem placed_in (n : Nat) (v : Value) (ao : Option Addr) (len cap : Nat) (hv : v = .slice ao len cap) (w : World) :
    CallsIn Fence.wide n Try.prog 26 #[v] w fun e w' => e = .returned (.func (.func 34) #[] #[.pointer (some ⟨w.heap.size, 0, none⟩)]) ∧ w' = w.alloc (.cells #[v] 22) := by
  subst hv
  refine callsIn_of_wp Try.func26 rfl trivial ?_ rfl
  simp only [Try.ntmps26, List.size_toArray, List.length_cons, List.length_nil, Nat.reduceAdd, Nat.reduceSub, Array.replicate_succ, Array.replicate_zero, List.push_toArray, List.append_toArray, List.nil_append, List.cons_append]
  gi_wp2
  go_ret
  exact ⟨rfl, rfl⟩

theorem next_i {p k : Nat} (h : p < k) (hk : k ≤ maxLen) : (Value.int .i64 (wrap64 ((p : Int) + 1)) = Value.int .i64 ((p + 1 : Nat) : Int)) ∧
    k - (intOf (.int .i64 (wrap64 ((p : Int) + 1)))).toNat < k - (intOf (.int .i64 ((p : Nat) : Int))).toNat := by
  have hw : wrap64 ((p : Int) + 1) = ((p + 1 : Nat) : Int) := by rw [IntWalk.wrap64_in]; rfl; unfold maxLen at hk; omega
  rw [hw]
  refine ⟨rfl, ?_⟩
  show k - (((p + 1 : Nat) : Int)).toNat < k - ((p : Nat) : Int).toNat
  omega

theorem grownBy_below {W W' : World} (h : Below W.heap.size W W') : W.grownBy W' none := ⟨h.os, h.tape, h.output, h.size, fun k hk _ => h.block k hk⟩
theorem abides_below {β : Type} {B : Nat} {J : β → World → Prop} (hJ : AbidesFrom B J) {s : β} {W W' : World} (h : J s W) (hb : Below W.heap.size W W') : J s W' :=
  hJ s W W' none h (grownBy_below hb) (fun r e => by cases e)

set_option maxRecDepth 100000 in
set_option maxHeartbeats 2000000 in
theorem placed1_in (n : Nat) (hn : 1 ≤ n) (l Bs n0 N1 : Nat) (X : Nat → Prop) (hX : ∀ k, N1 ≤ k → ¬ X k) (hXs : ¬ X Bs) (v : Value) (es : List Ed) (J Jx : List (Int × Ed) → World → Prop)
    (hY : ∀ pre x rest W, placed 0 es = pre ++ x :: rest → J pre W → YieldAt Fence.wide (n - 1) Try.prog l (encP x) W fun e W' =>
      (e = .returned (.bool true) ∧ J (pre ++ [x]) W' ∧ KX n0 X W W') ∨ (e = .returned (.bool false) ∧ Jx (pre ++ [x]) W'))
    (W : World) (hN1 : N1 ≤ W.heap.size) (hn0 : n0 ≤ W.heap.size) (hJ : AbidesFrom W.heap.size J) (hJx : AbidesFrom W.heap.size Jx) (hb : Blk W Bs 22 #[v]) (hes : EdsAt n0 W v es) (h0 : J [] W) :
    CallsIn Fence.wide n Try.prog 34 #[.func (.yield l) #[] #[], .pointer (some ⟨Bs, 0, none⟩)] W fun e W' => (∃ v, e = .returned v) ∧
      ((∃ ys, ys = placed 0 es ∧ J ys W') ∨ (∃ pre, pre <+: placed 0 es ∧ Jx pre W')) := by
  have hfI : Fence.wide.fn 27 := trivial
  obtain ⟨ao, cap, rfl, hmax, hcells⟩ := id hes
  have hc0 : W.cell? ⟨Bs, 0, none⟩ = some (.slice ao es.length cap) := hb.cell 0
  refine callsIn_of_wp Try.func34 rfl trivial ?_ rfl
  simp only [Try.ntmps34, List.size_toArray, List.length_cons, List.length_nil, Nat.reduceAdd, Nat.reduceSub, Array.replicate_succ, Array.replicate_zero, List.push_toArray, List.append_toArray, List.nil_append, List.cons_append]
  gi_wp2
  gi_loopw [3, 8] (fun m k wr => ∃ (pre rest : List Ed), m = .int .i64 (more 0 pre) ∧ k = .int .i64 (pre.length : Int) ∧ es = pre ++ rest ∧ J (placed 0 pre) wr ∧ KX n0 X W wr ∧ W.heap.size ≤ wr.heap.size)
    (fun _ k _ => es.length - (intOf k).toNat)
  case atStart => exact ⟨[], es, rfl, rfl, rfl, h0, KX.refl _ _ _, Nat.le_refl _⟩
  case round =>
    obtain ⟨pre, rest, rfl, rfl, hpr, hJ1, hK, hsz⟩ := hrel
    cases rest with
    | nil =>
      have hpe : pre = es := by rw [hpr, List.append_nil]
      have hlt : ((pre.length : Nat) : Int) = (es.length : Int) := by rw [hpe]
      have HP := Lib.hid hpe
      clear hpr hpe
      gi_wp2
      refine bodyPost_end (results_none rfl _ _ _) rfl ?_
      exact ⟨⟨_, rfl⟩, .inl ⟨_, by rw [← HP.out], hJ1⟩⟩
    | cons e rest =>
      have hel : es[pre.length]? = some e := by rw [hpr]; simp
      obtain ⟨g, o, rfl, hg, c0, c1, c2⟩ := hcells _ _ hel
      have hlt : (pre.length : Int) < (es.length : Int) := by rw [hpr]; simp; omega
      have c0 := (hK.1.cell (p := ⟨g, _, none⟩) hg).trans c0
      have c1 := (hK.1.cell (p := ⟨g, _, none⟩) hg).trans c1
      have c2 := (hK.1.cell (p := ⟨g, _, none⟩) hg).trans c2
      have HP := Lib.hid hpr
      have HE := Lib.hid hel
      have hJ2 : J (placed 0 pre) (wr.alloc (.cells #[.int .i64 e.f, .int .i64 e.t, .string e.x] 44)) := hJ _ _ _ none hJ1 (World.grownBy_alloc wr _ none) (fun r e => by cases e)
      have hKe : KX n0 X W (wr.alloc (.cells #[.int .i64 e.f, .int .i64 e.t, .string e.x] 44)) := hK.trans (KX.alloc X wr _ (by omega))
      have hbe := Blk.new wr 44 #[.int .i64 e.f, .int .i64 e.t, .string e.x]
      have hsz2 : (wr.alloc (.cells #[.int .i64 e.f, .int .i64 e.t, .string e.x] 44)).heap.size = wr.heap.size + 1 := by simp
      have hpl : placed 0 (pre ++ [e]) = placed 0 pre ++ [(wrap64 (e.f + more 0 pre), e)] := by rw [placed_append]; rfl
      have hmo : more 0 (pre ++ [e]) = wrap64 (more 0 pre + grow e) := by rw [more_append]; rfl
      have hln : placed 0 es = placed 0 pre ++ (wrap64 (e.f + more 0 pre), e) :: placed (wrap64 (more 0 pre + grow e)) rest := by rw [hpr, placed_append]; rfl
      obtain ⟨fn, tmps, assign, body, hy, hR⟩ := hY (placed 0 pre) (wrap64 (e.f + more 0 pre), e) _ _ hln hJ2
      rw [← hpl] at hR
      have HL := Lib.hid hpl; have HM := Lib.hid hmo
      have HW := Lib.hid (next_i (p := pre.length) (k := es.length) (by omega) hmax)
      clear hpr hel hcells hpl hmo hln
      dsimp only [encP] at hy
      gi_wp2
      refine hR.mono ?_
      rintro ee W3 (⟨rfl, hJ3, hk3⟩ | ⟨rfl, hJx3⟩)
      · have hb3 : Blk W3 wr.heap.size 44 #[.int .i64 e.f, .int .i64 e.t, .string e.x] := hk3.blk hbe (hX _ (by omega)) (by decide)
        have hs3 : wr.heap.size + 1 ≤ W3.heap.size := by have := hb3.lt; omega
        have d0 : W3.cell? ⟨wr.heap.size, 0, none⟩ = some (.int .i64 e.f) := hb3.cell 0
        have d1 : W3.cell? ⟨wr.heap.size, 1, none⟩ = some (.int .i64 e.t) := hb3.cell 1
        have d2 : W3.cell? ⟨wr.heap.size, 2, none⟩ = some (.string e.x) := hb3.cell 2
        have hsz3 : n0 ≤ W3.heap.size := by omega
        gi_wp2_with (gi_at_call 27; refine (growth_in (n - 1) e _).mono ?_; rintro ee w' ⟨rfl, hbw⟩)
        go_roundw
        case rel =>
          refine ⟨pre ++ [e], rest, by rw [HM.out], by rw [HW.out.1, List.length_append]; rfl, by rw [HP.out, List.append_assoc]; rfl, ?_, ?_, ?_⟩
          · exact abides_below hJ hJ3 hbw
          · exact (hKe.trans hk3).trans ⟨hbw.mono hsz3, fun k vs t _ _ _ h => h.below hbw h.lt⟩
          · have := hbw.size; omega
        case measure => exact HW.out.2
      · gi_wp2
        refine bodyPost_ret (results_none rfl _ _ _) rfl ?_
        exact ⟨⟨_, rfl⟩, .inr ⟨_, by rw [HL.out, HP.out, placed_append]; exact ⟨(placed (more 0 (pre ++ [e])) rest), by rw [HM.out]; simp [placed]⟩, hJx3⟩⟩

theorem placed_stops (n : Nat) (hn : 1 ≤ n) (Bs n0 : Nat) (X : Nat → Prop) (hXs : ¬ X Bs) (v : Value) (es : List Ed) (w : World) (hX : ∀ k, w.heap.size ≤ k → ¬ X k) (hn0 : n0 ≤ w.heap.size) (hb : Blk w Bs 22 #[v]) (hes : EdsAt n0 w v es) :
    SeqStopsK Fence.wide n Try.prog 34 #[.pointer (some ⟨Bs, 0, none⟩)] encP (KX n0 X) (fun ys => ys = placed 0 es) (fun pre => pre <+: placed 0 es) es.length w := fun l J Jx W hW hJ hJx hY h0 => by
  exact placed1_in n hn l Bs n0 w.heap.size X hX hXs v es J Jx (fun pre x rest W1 hl hj => hY pre x W1 hj (by rw [← placed_length 0 es, hl]; simp)) W hW.size (Nat.le_trans hn0 hW.size) hJ hJx (hb.below hW hb.lt) (hes.below (hW.mono hn0)) h0

/-- An iterator that tells just ys, to a body that never leaves and may lean on what has been told. -/
def SeqAll {α : Type} (F : Fence) (n : Nat) (P : Program) (g : Nat) (lb : Array Value) (encs : α → Array Value) (Kp : World → World → Prop) (ys : List α) (w : World) : Prop :=
  ∀ (l : Nat) (J : List α → World → Prop) (W : World), Below w.heap.size w W → AbidesFrom W.heap.size J →
    (∀ pre x rest W1, ys = pre ++ x :: rest → J pre W1 → YieldAt F (n - 1) P l (encs x) W1 fun e W' => e = .returned (.bool true) ∧ J (pre ++ [x]) W' ∧ Kp W1 W') →
    J [] W → CallsIn F n P g (#[.func (.yield l) #[] #[]] ++ lb) W fun e W' => (∃ v, e = .returned v) ∧ J ys W'

theorem placed_all (n : Nat) (hn : 1 ≤ n) (Bs n0 : Nat) (X : Nat → Prop) (hXs : ¬ X Bs) (v : Value) (es : List Ed) (w : World) (hX : ∀ k, w.heap.size ≤ k → ¬ X k) (hn0 : n0 ≤ w.heap.size) (hb : Blk w Bs 22 #[v]) (hes : EdsAt n0 w v es) :
    SeqAll Fence.wide n Try.prog 34 #[.pointer (some ⟨Bs, 0, none⟩)] encP (KX n0 X) (placed 0 es) w := fun l J W hW hJ hY h0 => by
  refine (placed1_in n hn l Bs n0 w.heap.size X hX hXs v es J (fun _ _ => False) (fun pre x rest W1 hl hj => (hY pre x rest W1 hl hj).mono fun e W' h => .inl h) W hW.size (Nat.le_trans hn0 hW.size) hJ (fun _ _ _ _ h _ _ => h) (hb.below hW hb.lt) (hes.below (hW.mono hn0)) h0).mono ?_
  rintro e W' ⟨hv, ⟨ys, rfl, hj⟩ | ⟨_, _, hf⟩⟩
  · exact ⟨hv, hj⟩
  · exact hf.elim

section
variable {F : Fence} {n : Nat} {P : Program} {w : World}

/-- A range over such an iterator. -/
theorem wpIn_rangeFunc_all {α : Type} {g : Operand} {ps : Array Tmp} {assign body : Code} {Q : Exit → Act → World → Prop} {a : Act}
    (hro : F.round = none) (h1 : 1 ≤ n) {gf : Nat} {lb : Array Value} (hg : a.eval g = .func (.func gf) #[] lb) (hFg : F.fn gf) (eg : ∀ args w, (callFunc gf args).run P w = .ok (.enter gf args) w)
    {encs : α → Array Value} {Kp : World → World → Prop} {ys : List α} {w0 : World} (hseq : SeqAll F (n - 1) P gf lb encs Kp ys w0)
    (hKt : ∀ {A B C : World}, Kp A B → Kp B C → Kp A C) (hKb : ∀ (W : World) (l : Nat) (o o' : Obj), w.heap.size ≤ l → W.heap[l]? = some o → o.isCells = false → o.isWalk = false → Kp W (W.putObj l o'))
    (hb0 : Below w0.heap.size w0 w) (hps : ∀ x, (encs x).size = ps.size)
    (I : List α → World → Prop) (hI : OwnFrom w.heap.size I) (h0 : I [] w) (Ax : α → Act → World → Prop) (hAx : ∀ x a', OwnFrom w.heap.size (fun (_ : Unit) W => Ax x a' W))
    (hassign : ∀ (l : Nat) (pre : List α) (x : α) (W : World) (K : Act → World → Prop), I pre W → (∀ a' W', KeepsFrom w.heap.size W W' → Kp W W' → I pre W' → Ax x a' W' → K a' W') →
      assign.wpIn (F.inRound l) (n - 1 - 1) P (Exit.then K (fun _ _ _ => False)) { tmps := (ps.zip (encs x)).foldl (fun t (p, v) => t.setIfInBounds p v) a.tmps, defers := [] } W)
    (hbody : ∀ (l : Nat) (pre : List α) (x : α) (rest : List α) (a' : Act) (W : World), ys = pre ++ x :: rest → w.heap.size ≤ l → I pre W → Ax x a' W →
      body.wpIn (F.inRound l) (n - 1 - 1) P (ownPostG w.heap.size Kp I (fun _ _ _ => False) (pre ++ [x]) W) a' W)
    (hdone : ∀ (D : Nat) (W : World), w.heap.size ≤ D → I ys W → W.heap[D]? = some (.deferred (some [])) → Q .normal { a with defers := { target := .collected D, args := #[] } :: a.defers } W) :
    (Code.rangeFunc g ps assign body).wpIn F n P Q a w := by
  refine wpIn_rangeFunc fun fn hfn => ?_
  rw [hro]
  let L : LoopState → Loop := fun st => { state := st, pending := none, fn, tmps := a.tmps, params := ps, assign, body, defers := w.heap.size }
  let W1 := (w.alloc (.deferred (some []))).alloc (.loop (L .ready))
  have hL1 : W1.heap[w.heap.size + 1]? = some (.loop (L .ready)) := by
    have := World.alloc_heap_new (w.alloc (.deferred (some []))) (.loop (L .ready)); rwa [World.size_alloc] at this
  have hD1 : W1.heap[w.heap.size]? = some (.deferred (some [])) := (Below.heap_alloc _ _ _ (by simp)).trans (World.alloc_heap_new w _)
  have hb1 : Below w0.heap.size w0 W1 := hb0.trans ((((Below.refl _ w).alloc (Nat.le_refl _) _).alloc (by simp) _).mono hb0.size)
  have hs1 : W1.heap.size = w.heap.size + 2 := by simp [W1]
  refine ⟨w.heap.size + 1, [{ target := .collected w.heap.size, args := #[] }], W1, { target := .fn (.func gf) lb, args := #[.func (.yield (w.heap.size + 1)) #[] #[]] }, W1, gf,
    #[.func (.yield (w.heap.size + 1)) #[] #[]] ++ lb, W1, run_enterLoop_outer _ _ _ _ _, ?_, ?_, ?_, fun _ => h1, ?_⟩
  · simp only [resolve, hg]
    simp [go_sem]
  · intro f' hf'; simp [Target.leads] at hf'; subst hf'; exact hFg
  · simp [invoke, go_sem, eg]
  · refine (hseq (w.heap.size + 1) (fun pre W => I pre W ∧ W.heap[w.heap.size + 1]? = some (.loop (L .ready)) ∧ W.heap[w.heap.size]? = some (.deferred (some []))) W1 hb1 ?_ ?_ ⟨hI.alloc _ (hI.alloc _ h0), hL1, hD1⟩).mono ?_
    · rintro s A B row ⟨hi, hl, hk⟩ hg' hr
      exact ⟨hI s A B row hi hg' (fun r e => by obtain ⟨hB, o, ho, hw⟩ := hr r e; exact ⟨by omega, o, ho, Obj.not_cells_of_walk hw⟩),
        (grownBy_keeps hg' (fun r e => (hr r e).2) hl rfl).trans hl, (grownBy_keeps hg' (fun r e => (hr r e).2) hk rfl).trans hk⟩
    · rintro pre x rest W hys ⟨hi, hl, hk⟩
      have hy := run_yield (P := P) (args := encs x) hl (hps x)
      refine ⟨fn, _, assign, body, hy, roundIn_of_wpIn hfn (hassign _ pre x W _ hi ?_)⟩
      intro a' V hkf hkp hiV hax
      have hlV := hkf.same _ _ (by omega) hl rfl
      have hkV := hkf.same _ _ (Nat.le_refl _) hk rfl
      have hltV : w.heap.size + 1 < V.heap.size := (Array.getElem?_eq_some_iff.1 hlV).1
      refine ⟨_, run_beginRound hlV rfl, ?_⟩
      have hl2 : (V.putObj (w.heap.size + 1) (.loop (L .busy))).heap[w.heap.size + 1]? = some (.loop (L .busy)) := World.putObj_heap_same hltV
      have hk2 : (V.putObj (w.heap.size + 1) (.loop (L .busy))).heap[w.heap.size]? = some (.deferred (some [])) := (World.putObj_heap_other (by omega)).trans hkV
      refine wpIn_mono (hbody _ pre x rest a' _ hys (by omega) (hI.putObj _ hiV (by omega) hlV rfl) ((hAx x a').putObj (s := ()) _ hax (by omega) hlV rfl)) ?_
      rintro e a3 W3 hp
      cases e with
      | normal =>
        obtain ⟨hk3, hkp3, hi3⟩ := hp
        have hl3 := hk3.same _ _ (by omega) hl2 rfl
        have hd3 := hk3.same _ _ (Nat.le_refl _) hk2 rfl
        exact ⟨_, _, run_endRound (P := P) none hl3, rfl, ⟨hI.putObj _ hi3 (by omega) hl3 rfl, World.putObj_heap_same (Array.getElem?_eq_some_iff.1 hl3).1, (World.putObj_heap_other (by omega)).trans hd3⟩,
          hKt hkp (hKt (hKt (hKb _ _ _ _ (by omega) hlV rfl rfl) hkp3) (hKb _ _ _ _ (by omega) hl3 rfl rfl))⟩
      | ret => exact hp.2.elim
      | exit id => exact hp.2.elim
      | goto t => exact hp.2.elim
      | panic ch => exact hp.elim
      | outgrown => exact hp.elim
    · rintro e W2 ⟨⟨v, rfl⟩, hi, hl, hk⟩
      exact ⟨none, _, run_endLoop (P := P) hl (by simp [L]), hdone _ _ (Nat.le_refl _) (hI.putObj _ hi (by omega) hl rfl) ((World.putObj_heap_other (by omega)).trans hk)⟩
end

end Go.Proofs.Ytepniobmhplphaa.ed
