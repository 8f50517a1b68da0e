/-
  edit.kept and edit.Apply: the contracts.
-/
import Derived.Test.YtepniobmhplphaaEdRight
import Derived.Test.YtepniobmhplphaaEdBuild
import Derived.Laws.EntriesVeiled
namespace Go.Proofs.Ytepniobmhplphaa.ed
open Go.RowKit Go.Shelf
attribute [local go_sem] Oper.semAt_some
set_option linter.unusedVariables false

set_option maxHeartbeats 1000000 in
theorem kept_in (n : Nat) (s : ByteArray) (w : World) :
    CallsIn Fence.wide n Try.prog 31 #[.string s] w fun e w' => e = .returned (.func (.func 36) #[] #[.pointer (some ⟨w.heap.size, 0, none⟩), .pointer (some ⟨w.heap.size + 1, 0, none⟩)]) ∧ w' = (w.alloc (.cells #[.string s] 9)).alloc (.cells #[.int .i64 0] 3) := by
  refine callsIn_of_wp Try.func31 rfl trivial ?_ rfl
  simp only [Try.ntmps31, List.size_toArray, List.length_cons, List.length_nil, Nat.reduceAdd, Nat.reduceSub, Array.replicate_succ, Array.replicate_zero, List.push_toArray, List.append_toArray, List.nil_append, List.cons_append]
  gi_wp2
  go_ret
  exact ⟨rfl, rfl⟩

set_option maxHeartbeats 1000000 in
theorem kept1_in (n : Nat) (s : ByteArray) (hs : s.size ≤ 140737488355328) (p q : Nat) (to : Int) (Bs Bp : Nat) (w : World) (b0 : Boxed w Bs 9 (.string s)) (b1 : Boxed w Bp 3 (.int .i64 (p : Int))) (hpq : p ≤ q) (hq : q ≤ s.size) :
    CallsIn Fence.wide n Try.prog 36 #[.int .i64 (q : Int), .int .i64 to, .pointer (some ⟨Bs, 0, none⟩), .pointer (some ⟨Bp, 0, none⟩)] w fun e w' => e = .returned (.string (s.extract p q)) ∧ w' = w.setCell ⟨Bp, 0, none⟩ (.int .i64 to) := by
  have c0 := b0.cell
  have c1 := b1.cell
  have f1 := b1.frozen
  have h1 : (p : Int) ≤ (q : Int) := by omega
  have h2 : (q : Int) ≤ (s.size : Int) := by omega
  have h3 : (0 : Int) ≤ (p : Int) := by omega
  refine callsIn_of_wp Try.func36 rfl trivial ?_ rfl
  simp only [Try.ntmps36, List.size_toArray, List.length_cons, List.length_nil, Nat.reduceAdd, Nat.reduceSub, Array.replicate_succ, Array.replicate_zero, List.push_toArray, List.append_toArray, List.nil_append, List.cons_append]
  gi_wp2
  go_ret
  exact ⟨rfl, rfl⟩

theorem BAt.kept {B b : Nat} {bs : List Value} {W W' : World} {row : Option Nat} (h : BAt B b bs W) (hg : W.grownBy W' row) (hr : ∀ r, row = some r → r ≠ b ∧ ∀ c fz, W.heap[r]? ≠ some (.cells c 5 fz)) : BAt B b bs W' := by
  have key : ∀ p, Lib.BuilderAtF 58 5 B b p bs W → Lib.BuilderAtF 58 5 B b p bs W' := by
    rintro p ⟨hB, v, hb, hown, hne⟩
    refine ⟨hB, v, (hg.block b (Array.getElem?_eq_some_iff.1 hb).1 (fun e => (hr b e.symm).1 rfl)).trans hb, hown.kept hg ?_, hne⟩
    rcases hown.2 with ⟨rfl, _⟩ | ⟨g, cap, cur, fz, rfl, _, hgg, _⟩
    · exact .inl rfl
    · exact .inr (fun e => (hr g e.symm).2 _ _ hgg)
  exact h.elim (fun x => .inl (key _ x)) (fun x => .inr (key _ x))
theorem BAt.set {B b c : Nat} {t : TypeId} {u : Value} {bs : List Value} {W : World} (h : BAt B b bs W) (hc : Boxed W c t u) (hcb : c ≠ b) (ht : t ≠ 5) (v : Value) : BAt B b bs (W.setCell ⟨c, 0, none⟩ v) :=
  h.kept (grownBy_setCell' W c v) (fun r e => by cases e; exact ⟨hcb, fun cc fz e' => by rw [show W.heap[c]? = _ from hc] at e'; cases e'; exact ht rfl⟩)
theorem BAt_own {β : Type} (B b : Nat) (f : β → List Value) : Own (fun s W => BAt B b (f s) W) := fun s X Y row hs hg hrow => by
  have hbX : ∃ c, X.heap[b]? = some (.cells c 58 (0, 0)) := by
    rcases hs with ⟨_, v, hb, _⟩ | ⟨_, v, hb, _⟩ <;> exact ⟨_, hb⟩
  obtain ⟨c, hbX⟩ := hbX
  exact hs.kept hg (fun r e => by
    obtain ⟨o, ho, hoc⟩ := hrow r e
    refine ⟨fun e' => ?_, fun c' fz e' => ?_⟩
    · rw [e', hbX] at ho; cases ho; cases hoc
    · rw [e'] at ho; cases ho; cases hoc)
theorem BAt.lt {B b : Nat} {bs : List Value} {W : World} (h : BAt B b bs W) : b < W.heap.size := h.elim (·.lt) (·.lt)
theorem BAt.not_box {B b c : Nat} {t : TypeId} {u : Array Value} {bs : List Value} {W : World} (h : BAt B b bs W) (hc : Blk W c t u) (ht : t ≠ 58) : c ≠ b := by
  rintro rfl
  rcases h with ⟨_, v, hb, _⟩ | ⟨_, v, hb, _⟩ <;> (rw [show W.heap[c]? = _ from hc] at hb; cases hb; exact ht rfl)

/-- The builder's words, for blocks. -/
theorem OthersKept.blk {b : Nat} {W W' : World} (h : Lib.OthersKept 5 (some b) W W') {k : Nat} {t : TypeId} {vs : Array Value} (hb : Blk W k t vs) (hk : k ≠ b) (ht : t ≠ 5) : Blk W' k t vs :=
  h k _ hb (fun e => hk (by cases e; rfl)) (fun c fz e => by cases e; exact ht rfl)
theorem OthersKept.same {b : Nat} {bs : List Value} {B : Nat} {W W' : World} (h : Lib.OthersKept 5 (some b) W W') (hB : BAt B b bs W) {k : Nat} {o : Obj} (hk : W.heap[k]? = some o) (ho : o.isCells = false) : W'.heap[k]? = some o := by
  refine h k o hk (fun e => ?_) (fun c fz e => by subst e; cases ho)
  cases e
  rcases hB with ⟨_, v, hb, _⟩ | ⟨_, v, hb, _⟩ <;> (rw [hb] at hk; cases hk; cases ho)

abbrev fnV (N : Nat) : Value := .func (.func 36) #[] #[.pointer (some ⟨N + 1, 0, none⟩), .pointer (some ⟨N + 1 + 1, 0, none⟩)]
/-- Between two rounds: the builder at N, the text at N + 1, what was passed at N + 2, the function at N + 3, the list at N + 4. -/
def AI (w1 : World) (s : ByteArray) (v : Value) (pre : List (Int × Ed)) (W : World) : Prop :=
  ((((BAt w1.heap.size w1.heap.size (Lib.byteCells (madeL s 0 (snds pre))) W ∧ Boxed W (w1.heap.size + 1) 9 (.string s)) ∧ Boxed W (w1.heap.size + 1 + 1) 3 (.int .i64 (lastT 0 (snds pre)))) ∧ Boxed W (w1.heap.size + 1 + 1 + 1) 59 (fnV w1.heap.size)) ∧ Boxed W (w1.heap.size + 1 + 1 + 1 + 1) 22 v) ∧ Below w1.heap.size w1 W
theorem AI_own (w1 : World) (s : ByteArray) (v : Value) (B : Nat) (hB : w1.heap.size ≤ B) : OwnFrom B (AI w1 s v) :=
  OwnFrom.and (OwnFrom.and (OwnFrom.and (OwnFrom.and (OwnFrom.and (Own.from (BAt_own _ _ _) _) (Own.from (boxed_own _ _ _) _)) (Own.from (boxed_own _ _ _) _)) (Own.from (boxed_own _ _ _) _)) (Own.from (boxed_own _ _ _) _)) (ownFrom_below (Nat.le_refl _) hB)
def AA (w1 : World) (s : ByteArray) (v : Value) (len : Nat) (x : Int × Ed) (a' : Act) (W : World) : Prop :=
  ∃ Bx, w1.heap.size + 4 < Bx ∧ Blk W Bx 44 #[.int .i64 x.2.f, .int .i64 x.2.t, .string x.2.x] ∧ a' = { tmps := #[.string s, v, undef, undef, .string ⟨#[]⟩, .int .u16 0, .pointer (some ⟨w1.heap.size, 0, none⟩), .pointer (some ⟨w1.heap.size + 1 + 1 + 1, 0, none⟩), undef, .pointer (some ⟨Bx, 0, none⟩), v, .string s, .int .i64 (s.size : Int), .bool true, .bool false, .string s, fnV w1.heap.size, v, .func (.func 34) #[] #[.pointer (some ⟨w1.heap.size + 1 + 1 + 1 + 1, 0, none⟩)], .int .i64 x.1, edV x.2, undef, undef, undef, undef, undef, undef, undef, undef, undef, undef, undef, undef, undef, undef, undef, undef, undef, undef], defers := [] }
theorem AA_own (w1 : World) (s : ByteArray) (v : Value) (len : Nat) (x : Int × Ed) (a' : Act) (B : Nat) : OwnFrom B (fun (_ : Unit) W => AA w1 s v len x a' W) :=
  fun _ X Y row hs hg hr => by obtain ⟨Bx, h1, h2, h3⟩ := hs; exact ⟨Bx, h1, blk_own Bx 44 (fun (_ : Unit) => #[.int .i64 x.2.f, .int .i64 x.2.t, .string x.2.x]) () X Y row h2 hg (fun r e => (hr r e).2), h3⟩
def AXs (w1 : World) (k : Nat) : Prop := k = w1.heap.size ∨ k = w1.heap.size + 1 + 1

set_option maxRecDepth 100000 in
set_option maxHeartbeats 2000000 in
theorem apply_wrong (n : Nat) (hn : 4 ≤ n) (s : ByteArray) (v : Value) (es : List Ed) (w : World) (hes : EdsAt w.heap.size w v es) (hr : rightF es s.size = false) :
    CallsIn Fence.wide n Try.prog 23 #[.string s, v] w fun e W' => e = .returned (.tuple #[.string ⟨#[]⟩, .int .u16 1]) ∧ Below w.heap.size w W' := by
  have hf : Fence.wide.fn 15 := trivial
  have h1 : 1 ≤ n := by omega
  have hcall := right_in (n - 1) (by omega) v es s.size w hes
  rw [hr] at hcall
  clear hr
  refine callsIn_of_wp_marks Try.func23 rfl trivial ?_ rfl
  simp only [Try.ntmps23, List.size_toArray, List.length_cons, List.length_nil, Nat.reduceAdd, Nat.reduceSub, Array.replicate_succ, Array.replicate_zero, List.push_toArray, List.append_toArray, List.nil_append, List.cons_append]
  gi_wp2_with (gi_at_call 15; refine hcall.mono ?_; rintro e w' ⟨rfl, hbw⟩)
  refine ⟨.tuple #[.string ⟨#[]⟩, .int .u16 1], ?_, rfl, hbw⟩
  simp [results, Try.f23, go_sem]

set_option maxRecDepth 100000 in
set_option maxHeartbeats 2000000 in
theorem apply_right (n : Nat) (hn : 5 ≤ n) (s : ByteArray) (v : Value) (es : List Ed) (w : World) (hes : EdsAt w.heap.size w v es) (hr : rightF es s.size = true) (hsum : s.size + sumX es ≤ 140737488355328) :
    CallsIn Fence.wide n Try.prog 23 #[.string s, v] w fun e W' => e = .returned (.tuple #[.string ⟨(madeAll s es).toArray⟩, .int .u16 0]) ∧ Below w.heap.size w W' := by
  have hf : Fence.wide.fn 15 := trivial
  have h1 : 1 ≤ n := by omega
  have hcall := right_in (n - 1) (by omega) v es s.size w hes
  rw [hr] at hcall
  have hrG : rightG (-1) 0 s.size es = true := by unfold rightF at hr; rw [Bool.and_eq_true] at hr; exact hr.2
  have HR := Lib.hid hrG
  clear hr hrG
  have hf2 : Fence.wide.fn 26 := trivial
  have hf3 : Fence.wide.fn 31 := trivial
  obtain ⟨ao, cap, rfl, hmax, hcells⟩ := id hes
  clear hcells
  refine callsIn_of_wp_marks Try.func23 rfl trivial ?_ rfl
  simp only [Try.ntmps23, List.size_toArray, List.length_cons, List.length_nil, Nat.reduceAdd, Nat.reduceSub, Array.replicate_succ, Array.replicate_zero, List.push_toArray, List.append_toArray, List.nil_append, List.cons_append]
  gi_wp2_with (gi_at_call 15; refine hcall.mono ?_; rintro e w1 ⟨rfl, hbw⟩)
  gi_wp2_with (gi_at_call 31; refine (kept_in (n - 1) _ _).mono ?_; rintro e w' ⟨rfl, rfl⟩)
  gi_wp2_with (gi_at_call 26; refine (placed_in (n - 1) _ ao es.length cap rfl _).mono ?_; rintro e w' ⟨rfl, rfl⟩)
  obtain ⟨v, hv⟩ : ∃ v, v = Value.slice ao es.length cap := ⟨_, rfl⟩
  rw [← hv] at hes ⊢
  clear hv
  obtain ⟨W0, hW0⟩ : ∃ W0, (((((w1.alloc (.cells #[.pointer none, .slice none 0 0] 58)).alloc (.cells #[.string s] 9)).alloc (.cells #[.int .i64 0] 3)).alloc (.cells #[fnV w1.heap.size] 59)).alloc (.cells #[v] 22)) = W0 := ⟨_, rfl⟩
  have hB0 : Below w1.heap.size w1 W0 := by rw [← hW0]; exact (((((Below.refl _ w1).alloc (Nat.le_refl _) _).alloc (by simp) _).alloc (by simp; omega) _).alloc (by simp; omega) _).alloc (by simp; omega) _
  have hsz : W0.heap.size = w1.heap.size + 5 := by rw [← hW0]; simp
  have b0 : BAt w1.heap.size w1.heap.size [] W0 := by
    rw [← hW0]
    have h : BAt w1.heap.size w1.heap.size [] (w1.alloc (.cells #[.pointer none, .slice none 0 0] 58)) := .inl ⟨Nat.le_refl _, _, World.alloc_heap_new w1 _, World.ownsRowF_nil _ _ _ _, by simp [Value.ownBlock]⟩
    exact (((h.alloc _).alloc _).alloc _).alloc _
  have b1 : Boxed W0 (w1.heap.size + 1) 9 (.string s) := by
    rw [← hW0]; have := (((Boxed.new (w1.alloc (.cells #[.pointer none, .slice none 0 0] 58)) 9 (.string s)).alloc (.cells #[.int .i64 0] 3)).alloc (.cells #[fnV w1.heap.size] 59)).alloc (.cells #[v] 22)
    simpa only [World.size_alloc] using this
  have b2 : Boxed W0 (w1.heap.size + 1 + 1) 3 (.int .i64 0) := by
    rw [← hW0]; have := ((Boxed.new ((w1.alloc (.cells #[.pointer none, .slice none 0 0] 58)).alloc (.cells #[.string s] 9)) 3 (.int .i64 0)).alloc (.cells #[fnV w1.heap.size] 59)).alloc (.cells #[v] 22)
    simpa only [World.size_alloc] using this
  have b3 : Boxed W0 (w1.heap.size + 1 + 1 + 1) 59 (fnV w1.heap.size) := by
    rw [← hW0]; have := (Boxed.new (((w1.alloc (.cells #[.pointer none, .slice none 0 0] 58)).alloc (.cells #[.string s] 9)).alloc (.cells #[.int .i64 0] 3)) 59 (fnV w1.heap.size)).alloc (.cells #[v] 22)
    simpa only [World.size_alloc] using this
  have b4 : Boxed W0 (w1.heap.size + 1 + 1 + 1 + 1) 22 v := by
    rw [← hW0]; have := Boxed.new ((((w1.alloc (.cells #[.pointer none, .slice none 0 0] 58)).alloc (.cells #[.string s] 9)).alloc (.cells #[.int .i64 0] 3)).alloc (.cells #[fnV w1.heap.size] 59)) 22 v
    simpa only [World.size_alloc] using this
  have hes0 : EdsAt w.heap.size W0 v es := (hes.below hbw).below (hB0.mono hbw.size)
  have hws := hbw.size
  rw [hW0]
  clear hW0 hes hcall
  refine wpIn_rangeFunc_all (F := Fence.wide) rfl h1 (gf := 34) (lb := #[.pointer (some ⟨w1.heap.size + 1 + 1 + 1 + 1, 0, none⟩)]) rfl trivial (enters_of Try.func34 (by kernel_rfl) rfl)
    (placed_all (n - 1) (by omega) (w1.heap.size + 1 + 1 + 1 + 1) w.heap.size (AXs w1) (by unfold AXs; omega) v es W0 (fun k hk => by unfold AXs; omega) (by omega) b4 hes0) KX.trans (KX.put (by omega)) (Below.refl _ _) (fun _ => rfl)
    (AI w1 s v) (AI_own w1 s v _ (by omega))
    ⟨⟨⟨⟨⟨b0, b1⟩, b2⟩, b3⟩, b4⟩, hB0⟩
    (AA w1 s v es.length) (fun x a' => AA_own w1 s v es.length x a' _)
    ?assign ?body ?done
  case assign =>
    rintro l pre x W K hI hK
    gi_wp2
    obtain ⟨⟨⟨⟨⟨b0, b1⟩, b2⟩, b3⟩, b4⟩, hB⟩ := hI
    exact hK _ _ ((KeepsOthers.alloc _ _).from _) (KX.alloc _ _ _ (by have := hB.size; omega)) ⟨⟨⟨⟨⟨b0.alloc _, b1.alloc _⟩, b2.alloc _⟩, b3.alloc _⟩, b4.alloc _⟩, hB.alloc hB.size _⟩ ⟨W.heap.size, by have := b4.lt; omega, Blk.new W 44 _, rfl⟩
  case body =>
    rintro l pre x rest a' W hys hl hI ⟨Bx, hBx, bX, rfl⟩
    have hes' : es = snds pre ++ x.2 :: snds rest := by have := congrArg snds hys; simpa only [snds, placed_snd, List.map_append, List.map_cons] using this
    obtain ⟨hpr, h0, hle, hft, htn, _⟩ := right_next HR.out (by omega) hes'
    have hlen := madeL_len s (-1) 0 s.size (snds pre ++ [x.2]) (by rw [rightG_snoc, hpr]; have := HR.out; rw [hes', rightG_append, Bool.and_eq_true, rightG, Bool.and_eq_true] at this; simpa using this.2.1) (by omega)
    rw [madeL_snoc, lastT_snoc, sumX_append] at hlen
    have hsx : sumX es = sumX (snds pre) + (x.2.x.size + sumX (snds rest)) := by rw [hes', sumX_append]; rfl
    simp only [List.length_append, size_toList, sumX] at hlen
    obtain ⟨⟨⟨⟨⟨b0, b1⟩, b2⟩, b3⟩, b4⟩, hB⟩ := hI
    have hfin : Lib.byteCells (madeL s 0 (snds (pre ++ [x]))) = (Lib.byteCells (madeL s 0 (snds pre)) ++ Lib.strCells (s.extract (lastT 0 (snds pre)).toNat x.2.f.toNat)) ++ Lib.strCells x.2.x := by
      simp only [snds, List.map_append, List.map_cons, List.map_nil]
      rw [madeL_snoc, Lib.byteCells_append, Lib.byteCells_append, Lib.strCells_eq, Lib.strCells_eq]; rfl
    have hlast : lastT 0 (snds (pre ++ [x])) = x.2.t := by simp only [snds, List.map_append, List.map_cons, List.map_nil, lastT_snoc]
    obtain ⟨p, hp⟩ : ∃ p : Nat, lastT 0 (snds pre) = (p : Int) := ⟨(lastT 0 (snds pre)).toNat, by omega⟩
    obtain ⟨q, hq⟩ : ∃ q : Nat, x.2.f = (q : Int) := ⟨x.2.f.toNat, by omega⟩
    have hbl : (Lib.byteCells (madeL s 0 (snds pre))).length = (madeL s 0 (snds pre)).length := Lib.byteCells_length _
    have hpc := piece_size s (lastT 0 (snds pre)) x.2.f
    have hpe : (s.extract p q).size = min q s.size - p := ByteArray.size_extract
    rw [hp] at b2 hle hfin hpc hlen
    rw [hq] at bX hle hft hfin hpc hlen
    simp only [Int.toNat_natCast] at hfin hpc
    have hpq : p ≤ q := by omega
    have hqs : q ≤ s.size := by omega
    have c3 := b3.cell
    have x0 : W.cell? ⟨Bx, 0, none⟩ = some (.int .i64 (q : Int)) := bX.cell 0
    have x1 : W.cell? ⟨Bx, 1, none⟩ = some (.int .i64 x.2.t) := bX.cell 1
    have hdep : 1 ≤ n - 1 - 1 := by omega
    have hfk : Fence.wide.fn 36 := trivial
    have hfw : Fence.wide.fn 32 := trivial
    have hWs := hB.size
    have c1' := kept1_in (n - 1 - 1 - 1) s (by omega) p q x.2.t (w1.heap.size + 1) (w1.heap.size + 1 + 1) W b1 b2 hpq hqs
    have b0' := b0.set b2 (by omega) (by decide) (.int .i64 x.2.t)
    have hB' := hB.setCell (p := ⟨w1.heap.size + 1 + 1, 0, none⟩) (by simp; omega) (.int .i64 x.2.t)
    obtain ⟨W1, hW1⟩ : ∃ W1, W.setCell ⟨w1.heap.size + 1 + 1, 0, none⟩ (.int .i64 x.2.t) = W1 := ⟨_, rfl⟩
    have b1' : Boxed W1 (w1.heap.size + 1) 9 (.string s) := by rw [← hW1]; exact b1.other (by omega) _
    have b2' : Boxed W1 (w1.heap.size + 1 + 1) 3 (.int .i64 x.2.t) := by rw [← hW1]; exact b2.set _
    have b3' : Boxed W1 (w1.heap.size + 1 + 1 + 1) 59 (fnV w1.heap.size) := by rw [← hW1]; exact b3.other (by omega) _
    have b4' : Boxed W1 (w1.heap.size + 1 + 1 + 1 + 1) 22 v := by rw [← hW1]; exact b4.other (by omega) _
    have bX' : Blk W1 Bx 44 #[.int .i64 (q : Int), .int .i64 x.2.t, .string x.2.x] := by rw [← hW1]; exact bX.other (by omega) _
    have kf1 : KeepsOthers W W1 := by rw [← hW1]; exact KeepsOthers.setCell _ _ _
    have kx1 : KX w.heap.size (AXs w1) W W1 := by
      rw [← hW1]
      exact ⟨(Below.refl _ W).setCell (p := ⟨w1.heap.size + 1 + 1, 0, none⟩) (by simp; omega) _, fun k vs t _ hX _ hb => hb.other (fun e => hX (.inr e)) _⟩
    rw [hW1] at c1' b0' hB'
    have hW1s := hB'.size
    have c2' := writeString_calls w1.heap.size w1.heap.size _ (s.extract p q) W1 b0' (by omega) (by omega)
    have HF := Lib.hid hfin; have HLt := Lib.hid hlast; have HLn := Lib.hid hlen; have HSx := Lib.hid hsx; have HBl := Lib.hid hbl; have HPc := Lib.hid hpc
    clear hfin hlast hlen hsx hes' hpr hys hW1 b0 b1 b2 hp hq
    gi_wp2_with fail
    refine (CallsIn.inRound l c1').mono ?_
    rintro e w' ⟨rfl, rfl⟩
    gi_wp2_with fail
    refine (CallsIn.inRound l (callsIn_wide.2 c2')).mono ?_
    rintro e W2 ⟨rfl, a2, hb2, hk2⟩
    have bX2 := OthersKept.blk hk2 bX' (by omega) (by decide)
    have x2 : W2.cell? ⟨Bx, 2, none⟩ = some (.string x.2.x) := bX2.cell 2
    have hW2s := hb2.size
    have c4 := writeString_calls w1.heap.size w1.heap.size _ x.2.x W2 a2 (by have := HLn.out; have := HSx.out; have := HBl.out; have := HPc.out; rw [List.length_append, Lib.strCells_length]; omega) (by omega)
    gi_wp2_with fail
    refine (CallsIn.inRound l (callsIn_wide.2 c4)).mono ?_
    rintro e W3 ⟨rfl, a3, hb3, hk3⟩
    gi_wp2
    refine ⟨⟨?_, ?_⟩, ?_, ?_⟩
    · have := kf1.size; have := hb3.size; omega
    · intro k o _ hk ho
      exact OthersKept.same hk3 a2 (OthersKept.same hk2 b0' (kf1.same k o hk ho) ho) ho
    · refine kx1.trans (KX.trans (B := W2) ⟨hb2.mono hws, ?_⟩ ⟨hb3.mono hws, ?_⟩)
      · exact fun k vs t _ hX ht hb => OthersKept.blk hk2 hb (fun e => hX (.inl e)) ht
      · exact fun k vs t _ hX ht hb => OthersKept.blk hk3 hb (fun e => hX (.inl e)) ht
    · unfold AI
      rw [HF.out, HLt.out]
      have keep : ∀ {b : Nat} {t : TypeId} {u : Value}, Boxed w' b t u → b ≠ w1.heap.size → t ≠ 5 → Boxed W3 b t u := fun h hb ht => OthersKept.blk hk3 (OthersKept.blk hk2 h hb ht) hb ht
      exact ⟨⟨⟨⟨⟨a3, keep b1' (by omega) (by decide)⟩, keep b2' (by omega) (by decide)⟩, keep b3' (by omega) (by decide)⟩, keep b4' (by omega) (by decide)⟩, (hB'.trans hb2).trans hb3⟩
  case done =>
    rintro D W hD hI hK
    obtain ⟨⟨⟨⟨⟨b0, b1⟩, b2⟩, b3⟩, b4⟩, hB⟩ := hI
    have hbd := right_bd (-1) 0 s.size es HR.out (by omega) (by omega)
    have hlen := madeL_len s (-1) 0 s.size es HR.out (by omega)
    have hsn : snds (placed 0 es) = es := placed_snd 0 es
    rw [hsn] at b0 b2
    have hall : Lib.byteCells (madeAll s es) = Lib.byteCells (madeL s 0 es) ++ Lib.strCells (s.extract (lastT 0 es).toNat s.size) := by
      unfold madeAll piece; rw [Lib.byteCells_append, Lib.strCells_eq, Int.toNat_natCast]
    obtain ⟨p, hp⟩ : ∃ p : Nat, lastT 0 es = (p : Int) := ⟨(lastT 0 es).toNat, by omega⟩
    have hbl : (Lib.byteCells (madeL s 0 es)).length = (madeL s 0 es).length := Lib.byteCells_length _
    have hpe : (s.extract p s.size).size = min s.size s.size - p := ByteArray.size_extract
    rw [hp] at b2 hall hbd hlen
    rw [Int.toNat_natCast] at hall
    have c3 := b3.cell
    have hWs := hB.size
    have hfk : Fence.wide.fn 36 := trivial
    have hfw : Fence.wide.fn 32 := trivial
    have hfs : Fence.wide.fn 33 := trivial
    have c1' := kept1_in (n - 1) s (by omega) p s.size s.size (w1.heap.size + 1) (w1.heap.size + 1 + 1) W b1 b2 (by omega) (Nat.le_refl _)
    have b0' := b0.set b2 (by omega) (by decide) (.int .i64 (s.size : Int))
    have hB' := hB.setCell (p := ⟨w1.heap.size + 1 + 1, 0, none⟩) (by simp; omega) (.int .i64 (s.size : Int))
    have hK1 := (KeepsOthers.setCell W ⟨w1.heap.size + 1 + 1, 0, none⟩ (.int .i64 (s.size : Int))).same D _ hK rfl
    obtain ⟨W1, hW1⟩ : ∃ W1, W.setCell ⟨w1.heap.size + 1 + 1, 0, none⟩ (.int .i64 (s.size : Int)) = W1 := ⟨_, rfl⟩
    rw [hW1] at c1' b0' hB' hK1
    have hW1s := hB'.size
    have c2' := writeString_calls w1.heap.size w1.heap.size _ (s.extract p s.size) W1 b0' (by omega) (by omega)
    rw [← hall] at c2'
    have HF := Lib.hid hall; have HLn := Lib.hid hlen
    clear hall hlen hW1 b0 b1 b2 hp hbd hsn
    gi_wp2_with fail
    refine c1'.mono ?_
    rintro e w' ⟨rfl, rfl⟩
    gi_wp2_with fail
    refine (callsIn_wide.2 c2').mono ?_
    rintro e W2 ⟨rfl, a2, hb2, hk2⟩
    have hK2 := OthersKept.same hk2 b0' hK1 rfl
    have hW2s := hb2.size
    gi_wp2_with fail
    refine (callsIn_wide.2 (Try.Builder_String_any_k w1.heap.size w1.heap.size (madeAll s es) W2 a2 (by omega))).mono ?_
    rintro e W3 ⟨rfl, a3, hb3, hk3⟩
    have hK3 := OthersKept.same hk3 a2 hK2 rfl
    gi_wp2
    refine ⟨by simp, .inl ⟨_, _, rfl, run_takeDeferred hK3, ?_⟩⟩
    refine ⟨.tuple #[.string ⟨(madeAll s es).toArray⟩, .int .u16 0], ?_, rfl, ((hbw.trans ((((hB'.trans hb2).trans hb3).mono hws)))).trans (belowK_b (w := w) (Nat.le_refl _) _ D _ _ (by omega) hK3 rfl rfl)⟩
    simp [results, Try.f23, go_sem]

/-- edit.Apply. -/
theorem apply_calls (s : ByteArray) (v : Value) (es : List Ed) (w : World) (hes : EdsAt w.heap.size w v es) (hsum : s.size + sumX es ≤ 140737488355328) :
    Calls Try.prog 23 #[.string s, v] w fun e W' => e = .returned (.tuple #[.string (applyR s es).1, .int .u16 (applyR s es).2]) ∧ Below w.heap.size w W' := by
  unfold applyR
  cases hr : rightF es s.size with
  | true => exact callsIn_wide.1 (apply_right 5 (Nat.le_refl _) s v es w hes hr hsum)
  | false => exact callsIn_wide.1 (apply_wrong 4 (Nat.le_refl _) s v es w hes hr)

end Go.Proofs.Ytepniobmhplphaa.ed
