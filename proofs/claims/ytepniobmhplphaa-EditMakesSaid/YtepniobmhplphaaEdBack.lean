/-
  edit.Back: the contract.
-/
import Derived.Test.YtepniobmhplphaaEdMath2
import Derived.Test.YtepniobmhplphaaRegionInv
namespace Go.Proofs.Ytepniobmhplphaa.ed
open Go.RowKit Go.Shelf
attribute [local go_sem] Oper.semAt_some
set_option linter.unusedVariables false

/-- What undoes one. -/
def bkE (s : ByteArray) (x : Int × Ed) : Ed := ⟨x.1, wr (x.1 + x.2.x.size), piece s x.2.f x.2.t⟩
def backL (s : ByteArray) (es : List Ed) : List Ed := (placed 0 es).map (bkE s)
def backR (s : ByteArray) (es : List Ed) : List Ed × Int := if rightF es s.size = true then (backL s es, 0) else ([], 1)

theorem row_own {β : Type} (base : Nat) (e : TypeId) (size : Nat) (f : β → Value) (n : β → Nat) (xs : β → List Value) : Own (fun b W => W.ownsRow base e size (f b) (n b) (xs b)) := fun b X Y row h hg hrow => by
  refine ⟨h.1, ?_⟩
  rcases h.2 with hn | ⟨g, cap, cur, h1, h2, h3, h4⟩
  · exact .inl hn
  · exact .inr ⟨g, cap, cur, h1, h2, (hg.block g (Array.getElem?_eq_some_iff.1 h3).1 (fun e' => by obtain ⟨o, ho, hc⟩ := hrow g e'.symm; rw [h3] at ho; cases ho; cases hc)).trans h3, h4⟩
theorem ownsRow_below {W z : World} {base : Nat} {e : TypeId} {size : Nat} {v : Value} {k : Nat} {xs : List Value} (h : W.ownsRow base e size v k xs) (hz : Below W.heap.size W z) : z.ownsRow base e size v k xs := by
  refine ⟨h.1, ?_⟩
  rcases h.2 with hn | ⟨g, cap, cur, h1, h2, h3, h4⟩
  · exact .inl hn
  · exact .inr ⟨g, cap, cur, h1, h2, (hz.block g (Array.getElem?_eq_some_iff.1 h3).1).trans h3, h4⟩
theorem keeps_below {W z : World} (hz : Below W.heap.size W z) : KeepsOthers W z := ⟨hz.size, fun k o hk _ => (hz.block k (Array.getElem?_eq_some_iff.1 hk).1).trans hk⟩
theorem not_of {p q : Bool} (h : p = true → q = true) (hq : q = false) : p = false := by
  cases p with
  | false => rfl
  | true => rw [h rfl] at hq; cases hq

abbrev bkV (G k cap : Nat) : Value := .slice (some ⟨G, 0, none⟩) k cap
def BI (w : World) (s : ByteArray) (v : Value) (G B6 cap : Nat) (pre : List (Int × Ed)) (W : World) : Prop :=
  ((((W.ownsRow G 44 3 (bkV G pre.length cap) pre.length (flat (pre.map (bkE s))) ∧ Boxed W w.heap.size 9 (.string s)) ∧ Boxed W B6 22 (bkV G pre.length cap)) ∧ Boxed W (B6 + 1) 22 v)) ∧ Below w.heap.size w W
theorem BI_own (w : World) (s : ByteArray) (v : Value) (G B6 cap B : Nat) (hB : w.heap.size ≤ B) : OwnFrom B (BI w s v G B6 cap) :=
  OwnFrom.and (OwnFrom.and (OwnFrom.and (OwnFrom.and (Own.from (row_own _ _ _ _ _ _) _) (Own.from (boxed_own _ _ _) _)) (Own.from (boxed_own _ _ _) _)) (Own.from (boxed_own _ _ _) _)) (ownFrom_below (Nat.le_refl _) hB)
abbrev bkTmps (w : World) (s : ByteArray) (v : Value) (len G B6 : Nat) (x : Int × Ed) (Bx : Nat) (v21 v22 v23 v24 v25 v26 v27 v28 v29 v30 v31 v32 v33 v34 v35 v36 v37 : Value) : Act :=
  { tmps := #[.string s, v, .pointer (some ⟨w.heap.size, 0, none⟩), undef, .slice none 0 0, .int .u16 0, .pointer (some ⟨B6, 0, none⟩), .int .i64 x.1, .pointer (some ⟨Bx, 0, none⟩), v, .string s, .int .i64 (s.size : Int), .bool true, .bool false, v, .int .i64 (len : Int), bkV G 0 len, v, .func (.func 34) #[] #[.pointer (some ⟨B6 + 1, 0, none⟩)], .int .i64 x.1, edV x.2, v21, v22, v23, v24, v25, v26, v27, v28, v29, v30, v31, v32, v33, v34, v35, v36, v37, undef], defers := [] }
def BA (w : World) (s : ByteArray) (v : Value) (len G B6 : Nat) (x : Int × Ed) (a' : Act) (W : World) : Prop :=
  ∃ Bx, B6 + 1 < Bx ∧ Blk W Bx 44 #[.int .i64 x.2.f, .int .i64 x.2.t, .string x.2.x] ∧ a' = bkTmps w s v len G B6 x Bx undef undef undef undef undef undef undef undef undef undef undef undef undef undef undef undef undef
theorem BA_own (w : World) (s : ByteArray) (v : Value) (len G B6 : Nat) (x : Int × Ed) (a' : Act) (B : Nat) : OwnFrom B (fun (_ : Unit) W => BA w s v len G B6 x a' W) :=
  fun _ X Y row hs hg hr => by obtain ⟨Bx, h1, h2, h3⟩ := hs; exact ⟨Bx, h1, blk_own Bx 44 (fun (_ : Unit) => #[.int .i64 x.2.f, .int .i64 x.2.t, .string x.2.x]) () X Y row h2 hg (fun r e => (hr r e).2), h3⟩
def BXs (G B6 : Nat) (k : Nat) : Prop := k = G ∨ k = B6

/-- In the drawn region: what each operation has left, whatever the order. -/
structure BkR (s : ByteArray) (x : Int × Ed) (TO : Int) (F H : Nat) (Bx : Nat) (OV : Value) (G B6 k cap : Nat) (xs : List Value) (W1 : World) (d : Nat → Bool) (v21 v22 v23 v24 v25 v26 v27 v28 v29 v30 v31 v32 v33 v34 v35 v36 v37 : Value) (u : World) : Prop where
  p0 : d 0 = true → v21 = OV
  p1 : d 1 = true → v22 = .int .i64 x.1
  p2 : d 2 = true → v23 = .int .i64 x.1
  p3 : d 3 = true → v24 = .pointer (some ⟨Bx, 2, none⟩)
  p4 : d 4 = true → v25 = .string x.2.x
  p5 : d 5 = true → v26 = .int .i64 (x.2.x.size : Int)
  p6 : d 6 = true → v27 = .int .i64 TO
  p7 : d 7 = true → v28 = .string s
  p8 : d 8 = true → v29 = .pointer (some ⟨Bx, 0, none⟩)
  p9 : d 9 = true → v30 = .int .i64 (F : Int)
  p10 : d 10 = true → v31 = .pointer (some ⟨Bx, 1, none⟩)
  p11 : d 11 = true → v32 = .int .i64 (H : Int)
  p12 : d 12 = true → v33 = .string (s.extract F H)
  p13 : d 13 = true → v34 = .string (s.extract F H)
  p14 : d 14 = true → v35 = .agg #[.int .i64 x.1, .int .i64 TO, .string (s.extract F H)]
  q4 : d 4 = true → d 3 = true
  q5 : d 5 = true → d 4 = true
  q6 : d 6 = true → d 2 = true ∧ d 5 = true
  q9 : d 9 = true → d 8 = true
  q11 : d 11 = true → d 10 = true
  q12 : d 12 = true → d 7 = true ∧ d 9 = true ∧ d 11 = true
  q13 : d 13 = true → d 12 = true
  q14 : d 14 = true → d 1 = true ∧ d 6 = true ∧ d 13 = true
  q15 : d 15 = true → d 14 = true
  q16 : d 16 = true → d 0 = true ∧ d 15 = true
  q17 : d 17 = true → d 16 = true
  w7 : d 15 = false → Below W1.heap.size W1 u
  w8 : d 15 = true → d 16 = false → ∃ z, Below W1.heap.size W1 z ∧ u = z.alloc (.cells #[.int .i64 x.1, .int .i64 TO, .string (s.extract F H)] 44) ∧ v36 = .slice (some ⟨z.heap.size, 0, none⟩) 1 1
  w9 : d 16 = true → d 17 = false → ∃ z, Below W1.heap.size W1 z ∧ u.ownsRow G 44 3 (.slice (some ⟨G, 0, none⟩) (k + 1) cap) (k + 1) (xs ++ [.int .i64 x.1, .int .i64 TO, .string (s.extract F H)]) ∧ v37 = .slice (some ⟨G, 0, none⟩) (k + 1) cap ∧ (z.alloc (.cells #[.int .i64 x.1, .int .i64 TO, .string (s.extract F H)] 44)).grownBy u (some G)
  w10 : d 17 = true → ∃ z w2, Below W1.heap.size W1 z ∧ w2.ownsRow G 44 3 (.slice (some ⟨G, 0, none⟩) (k + 1) cap) (k + 1) (xs ++ [.int .i64 x.1, .int .i64 TO, .string (s.extract F H)]) ∧ (z.alloc (.cells #[.int .i64 x.1, .int .i64 TO, .string (s.extract F H)] 44)).grownBy w2 (some G) ∧ u = w2.setCell ⟨B6, 0, none⟩ (.slice (some ⟨G, 0, none⟩) (k + 1) cap)

def BkV (w : World) (v : Value) (len : Nat) (s : ByteArray) (x : Int × Ed) (TO : Int) (F H : Nat) (Bx : Nat) (OV : Value) (G B6 k cap : Nat) (xs : List Value) (W1 : World) (listed : Array Bool) (a : Act) (u : World) : Prop :=
  listed.size = 18 ∧ ∃ v21 v22 v23 v24 v25 v26 v27 v28 v29 v30 v31 v32 v33 v34 v35 v36 v37, a = bkTmps w s v len G B6 x Bx v21 v22 v23 v24 v25 v26 v27 v28 v29 v30 v31 v32 v33 v34 v35 v36 v37 ∧ BkR s x TO F H Bx OV G B6 k cap xs W1 (rinv.done listed) v21 v22 v23 v24 v25 v26 v27 v28 v29 v30 v31 v32 v33 v34 v35 v36 v37 u
theorem BkR.early {s : ByteArray} {x : Int × Ed} {TO : Int} {F H Bx : Nat} {OV : Value} {G B6 k cap : Nat} {xs : List Value} {W1 : World} {d : Nat → Bool} {v21 v22 v23 v24 v25 v26 v27 v28 v29 v30 v31 v32 v33 v34 v35 v36 v37 : Value} {u : World}
    (h : BkR s x TO F H Bx OV G B6 k cap xs W1 d v21 v22 v23 v24 v25 v26 v27 v28 v29 v30 v31 v32 v33 v34 v35 v36 v37 u) (h16 : d 16 = false) : Below W1.heap.size W1 u := by
  cases h15 : d 15 with
  | false => exact h.w7 h15
  | true => obtain ⟨z, hz, rfl, _⟩ := h.w8 h15 h16; exact hz.alloc hz.size _

theorem flat_map_snoc (s : ByteArray) (pre : List (Int × Ed)) (x : Int × Ed) : flat ((pre ++ [x]).map (bkE s)) = flat (pre.map (bkE s)) ++ [.int .i64 x.1, .int .i64 (wr (x.1 + x.2.x.size)), .string (piece s x.2.f x.2.t)] := by
  rw [List.map_append, List.map_cons, List.map_nil, flat_snoc]; rfl

theorem BI_go {w W z w2 : World} {s : ByteArray} {v : Value} {G B6 cap : Nat} {pre : List (Int × Ed)} {x : Int × Ed} {o : Obj} (hI : BI w s v G B6 cap pre W) (hz : Below W.drew.heap.size W.drew z)
    (hrow : w2.ownsRow G 44 3 (bkV G (pre.length + 1) cap) (pre.length + 1) (flat ((pre ++ [x]).map (bkE s)))) (hg : (z.alloc o).grownBy w2 (some G)) (hG : w.heap.size < G) (hGB : G < B6) :
    KeepsOthers W (w2.setCell ⟨B6, 0, none⟩ (bkV G (pre.length + 1) cap)) ∧ KX w.heap.size (BXs G B6) W (w2.setCell ⟨B6, 0, none⟩ (bkV G (pre.length + 1) cap)) ∧ BI w s v G B6 cap (pre ++ [x]) (w2.setCell ⟨B6, 0, none⟩ (bkV G (pre.length + 1) cap)) := by
  obtain ⟨⟨⟨⟨hr0, b0⟩, b1⟩, b2⟩, hB⟩ := hI
  have hzs := hz.size
  have hs := hB.size
  have hW : W.drew.heap.size = W.heap.size := rfl
  have bx : ∀ {b : Nat} {t : TypeId} {y : Value}, Boxed W b t y → b ≠ G → Boxed w2 b t y := fun {b t y} h hb => by
    have h1 : Boxed z b t y := (hz.block b h.lt).trans h
    exact (h1.alloc o).kept hg (fun e => hb (by cases e; rfl))
  have hbl : Below w.heap.size W w2 := by
    have h1 : Below w.heap.size W (z.alloc o) := ((Below.refl w.heap.size W).drew.trans (hz.mono (by omega))).alloc (by omega) o
    exact h1.grown hg (by simp; omega) (fun j ej => by cases ej; omega)
  have hko : KeepsOthers W w2 := by
    refine (((KeepsOthers.drew W).trans (keeps_below hz)).trans (KeepsOthers.alloc z o)).trans (KeepsOthers.of_grownBy hg fun j p ej hj => ?_)
    cases ej
    rcases hr0.2 with ⟨hn, _⟩ | ⟨g, c, cur, hv, _, hgb, _⟩
    · cases hn
    · cases hv
      have hl := (Array.getElem?_eq_some_iff.1 hgb).1
      have e1 : (z.alloc o).heap[G]? = some (.cells cur 44 (0, 0)) := (Below.heap_alloc z o G (by omega)).trans ((hz.block G hl).trans hgb)
      rw [e1] at hj; cases hj; rfl
  refine ⟨hko.trans (KeepsOthers.setCell _ _ _), ⟨hbl.setCell (p := ⟨B6, 0, none⟩) (by simp; omega) _, ?_⟩, ⟨⟨⟨⟨?_, ?_⟩, ?_⟩, ?_⟩, ?_⟩⟩
  · intro k vs t _ hX _ hb
    have h1 : Blk z k t vs := (hz.block k hb.lt).trans hb
    exact ((h1.alloc o).kept hg (fun e => hX (.inl (by cases e; rfl)))).other (fun e => hX (.inr e)) _
  · rw [List.length_append]
    refine ⟨hrow.1, ?_⟩
    rcases hrow.2 with ⟨hn, _⟩ | ⟨g, c, cur, hv, h2, h3, h4⟩
    · cases hn
    · refine .inr ⟨g, c, cur, hv, h2, ?_, h4⟩
      cases hv
      exact (Below.heap_setCell _ _ _ G (by simp; omega)).trans h3
  · exact (bx b0 (by omega)).other (by omega) _
  · rw [List.length_append]; exact (bx b1 (by omega)).set _
  · exact (bx b2 (by omega)).other (by omega) _
  · exact (hB.trans hbl).setCell (p := ⟨B6, 0, none⟩) (by simp; omega) _

set_option maxRecDepth 100000 in
set_option maxHeartbeats 2000000 in
theorem back_wrong (n : Nat) (hn : 4 ≤ n) (s : ByteArray) (v : Value) (es : List Ed) (w : World) (hes : EdsAt w.heap.size w v es) (hr : rightF es s.size = false) :
    CallsIn Fence.wide n Try.prog 24 #[.string s, v] w fun e W' => e = .returned (.tuple #[.slice none 0 0, .int .u16 1]) ∧ Below w.heap.size w W' := by
  have hf : Fence.wide.fn 15 := trivial
  have h1 : 1 ≤ n := by omega
  have hes2 := hes.next (Below.new w (.cells #[.string s] 9))
  have hcall := right_in (n - 1) (by omega) v es s.size _ hes2
  rw [hr] at hcall
  clear hr
  refine callsIn_of_wp_marks Try.func24 rfl trivial ?_ rfl
  simp only [Try.ntmps24, List.size_toArray, List.length_cons, List.length_nil, Nat.reduceAdd, Nat.reduceSub, Array.replicate_succ, Array.replicate_zero, List.push_toArray, List.append_toArray, List.nil_append, List.cons_append]
  gi_wp2_with (gi_at_call 15; refine hcall.mono ?_; rintro e w' ⟨rfl, hbw⟩)
  refine ⟨.tuple #[.slice none 0 0, .int .u16 1], ?_, rfl, Below.step (Below.new w _) hbw⟩
  simp [results, Try.f24, go_sem]

set_option maxRecDepth 100000 in
set_option maxHeartbeats 4000000 in
theorem back_right (n : Nat) (hn : 5 ≤ n) (s : ByteArray) (hs : s.size ≤ 140737488355328) (v : Value) (es : List Ed) (w : World) (hes : EdsAt w.heap.size w v es) (hr : rightF es s.size = true) :
    CallsIn Fence.wide n Try.prog 24 #[.string s, v] w fun e W' => ∃ u, e = .returned (.tuple #[u, .int .u16 0]) ∧ EdsAt W'.heap.size W' u (backL s es) ∧ Below w.heap.size w W' := by
  have hf : Fence.wide.fn 15 := trivial
  have h1 : 1 ≤ n := by omega
  have hes2 := hes.next (Below.new w (.cells #[.string s] 9))
  have hcall := right_in (n - 1) (by omega) v es s.size _ hes2
  rw [hr] at hcall
  have hlen : es.length ≤ 1000 := by unfold rightF at hr; rw [Bool.and_eq_true, decide_eq_true_eq] at hr; exact hr.1
  have hrG : rightG (-1) 0 s.size es = true := by unfold rightF at hr; rw [Bool.and_eq_true] at hr; exact hr.2
  have HR := Lib.hid hrG
  clear hr hrG
  have hf2 : Fence.wide.fn 26 := trivial
  obtain ⟨ao, cap, rfl, hmax, hcells⟩ := id hes
  clear hcells
  obtain ⟨i0, hi, hz0, hz1, hz2⟩ := info_parts infoE
  refine callsIn_of_wp_marks Try.func24 rfl trivial ?_ rfl
  simp only [Try.ntmps24, List.size_toArray, List.length_cons, List.length_nil, Nat.reduceAdd, Nat.reduceSub, Array.replicate_succ, Array.replicate_zero, List.push_toArray, List.append_toArray, List.nil_append, List.cons_append]
  gi_wp2_with (gi_at_call 15; refine hcall.mono ?_; rintro e w1 ⟨rfl, hbw⟩)
  obtain ⟨w2, hrun, hrow0, hgr⟩ := run_make_own (P := Try.prog) w1 w1.heap.size 22 44 i0 (.agg #[.int .i64 0, .int .i64 0, .string ⟨#[]⟩]) 3 Try.underlying22 hi hz0 hz1 .i64 .i64 es.length (by rw [hz2]; omega) (by unfold maxLen; omega) (Nat.le_refl _)
  rw [hrun]
  gi_wp2_with (gi_at_call 26; refine (placed_in (n - 1) _ ao es.length cap rfl _).mono ?_; rintro e w' ⟨rfl, rfl⟩)
  obtain ⟨v, hv⟩ : ∃ v, v = Value.slice ao es.length cap := ⟨_, rfl⟩
  rw [← hv] at hes ⊢
  clear hv hrun
  obtain ⟨G, hG⟩ : ∃ G, w1.heap.size = G := ⟨_, rfl⟩
  obtain ⟨B6, hB6⟩ : ∃ B6, w2.heap.size = B6 := ⟨_, rfl⟩
  have hwG : w.heap.size < G := by have := hbw.size; simp at this; omega
  have hGB : G < B6 := by
    rcases hrow0.2 with ⟨hx, _⟩ | ⟨g, c, cur, hx, _, hg, _⟩
    · cases hx
    · cases hx
      have := (Array.getElem?_eq_some_iff.1 hg).1
      omega
  rw [hG] at hrow0 ⊢
  obtain ⟨W0, hW0⟩ : ∃ W0, ((w2.alloc (.cells #[bkV G 0 es.length] 22)).alloc (.cells #[v] 22)) = W0 := ⟨_, rfl⟩
  have hb2 : Below w.heap.size w w2 := ((Below.new w (.cells #[.string s] 9)).trans (hbw.mono (by simp))).grown hgr (by have := hbw.size; simp at this; omega) (fun j ej => by cases ej)
  have hB0 : Below w.heap.size w W0 := by rw [← hW0]; exact (hb2.alloc hb2.size _).alloc (by have := hb2.size; simp; omega) _
  have hsz : W0.heap.size = B6 + 2 := by rw [← hW0]; simp; omega
  have hrow : W0.ownsRow G 44 3 (bkV G 0 es.length) 0 [] := by rw [← hW0]; exact (hrow0.alloc _).alloc _
  have bs0 : Boxed w1 w.heap.size 9 (.string s) := (hbw.block _ (by simp)).trans (Boxed.new w 9 (.string s))
  have b0 : Boxed W0 w.heap.size 9 (.string s) := by rw [← hW0]; exact ((bs0.kept hgr (by simp)).alloc _).alloc _
  have b1 : Boxed W0 B6 22 (bkV G 0 es.length) := by rw [← hW0, ← hB6]; exact (Boxed.new w2 _ _).alloc _
  have b2 : Boxed W0 (B6 + 1) 22 v := by
    rw [← hW0, ← hB6]; have := Boxed.new (w2.alloc (.cells #[bkV G 0 es.length] 22)) 22 v
    simpa only [World.size_alloc] using this
  have hes0 : EdsAt w.heap.size W0 v es := hes.below hB0
  rw [hW0, hB6]
  clear hW0 hes hcall hrow0 hgr bs0 hb2 hG hB6
  refine wpIn_rangeFunc_all (F := Fence.wide) rfl h1 (gf := 34) (lb := #[.pointer (some ⟨B6 + 1, 0, none⟩)]) rfl trivial (enters_of Try.func34 (by kernel_rfl) rfl)
    (placed_all (n - 1) (by omega) (B6 + 1) w.heap.size (BXs G B6) (by unfold BXs; omega) v es W0 (fun k hk => by unfold BXs; omega) (by omega) b2 hes0) KX.trans (KX.put (by omega)) (Below.refl _ _) (fun _ => rfl)
    (BI w s v G B6 es.length) (BI_own w s v G B6 es.length _ (by omega))
    ⟨⟨⟨⟨hrow, b0⟩, b1⟩, b2⟩, hB0⟩
    (BA w s v es.length G B6) (fun x a' => BA_own w s v es.length G B6 x a' _)
    ?assign ?body ?done
  case assign =>
    rintro l pre x W K hI hK
    gi_wp2
    obtain ⟨⟨⟨⟨hr, b0⟩, b1⟩, b2⟩, hB⟩ := hI
    exact hK _ _ ((KeepsOthers.alloc _ _).from _) (KX.alloc _ _ _ hB.size) ⟨⟨⟨⟨hr.alloc _, b0.alloc _⟩, b1.alloc _⟩, b2.alloc _⟩, hB.alloc hB.size _⟩ ⟨W.heap.size, by have := b2.lt; omega, Blk.new W 44 _, rfl⟩
  case body =>
    rintro l pre x rest a' W hys hl hI ⟨Bx, hBx, bX, rfl⟩
    have hes' : es = snds pre ++ x.2 :: snds rest := by have := congrArg snds hys; simpa only [snds, placed_snd, List.map_append, List.map_cons] using this
    obtain ⟨hpr, h0, hle, hft, htn, _⟩ := right_next HR.out (by omega) hes'
    have hkl : pre.length + 1 ≤ es.length := by rw [hes']; simp
    obtain ⟨F, hF⟩ : ∃ F : Nat, x.2.f = (F : Int) := ⟨x.2.f.toNat, by omega⟩
    obtain ⟨H, hH⟩ : ∃ H : Nat, x.2.t = (H : Int) := ⟨x.2.t.toNat, by omega⟩
    have hfl := flat_map_snoc s pre x
    have hpc : piece s x.2.f x.2.t = s.extract F H := by unfold piece; rw [hF, hH]; rfl
    rw [hpc] at hfl
    obtain ⟨TO, hTO⟩ : ∃ TO, wr (x.1 + x.2.x.size) = TO := ⟨_, rfl⟩
    rw [hTO] at hfl
    have hgo := fun z w2 o hz hrow hg => BI_go (x := x) (o := o) (z := z) (w2 := w2) hI hz hrow hg hwG hGB
    rw [hfl] at hgo
    obtain ⟨⟨⟨⟨hrow, b0⟩, bO⟩, b2⟩, hB⟩ := hI
    obtain ⟨xs, hxs⟩ : ∃ xs, flat (pre.map (bkE s)) = xs := ⟨_, rfl⟩
    rw [hxs] at hrow hgo
    obtain ⟨k, hk⟩ : ∃ k, pre.length = k := ⟨_, rfl⟩
    rw [hk] at hrow bO hgo hkl
    rw [hF, hH] at bX
    obtain ⟨N, hN⟩ : ∃ N, w.heap.size = N := ⟨_, rfl⟩
    have HGO := Lib.hid hgo
    have wTO : wrap64 (x.1 + (x.2.x.size : Int)) = TO := hTO
    have wTO' : IntKind.i64.wrap (x.1 + (x.2.x.size : Int)) = TO := (IntWalk.i64_left _).trans hTO
    have hmx : Try.prog.follows .mixedOrders = true := by kernel_rfl
    have hdep : 1 ≤ n - 1 - 1 := by omega
    have hfc : Fence.wide.fn 30 := trivial
    have cO : W.drew.cell? ⟨B6, 0, none⟩ = some (bkV G k es.length) := bO.cell
    have cS : W.drew.cell? ⟨w.heap.size, 0, none⟩ = some (.string s) := b0.cell
    have cX0 : W.drew.cell? ⟨Bx, 0, none⟩ = some (.int .i64 (F : Int)) := bX.cell 0
    have cX1 : W.drew.cell? ⟨Bx, 1, none⟩ = some (.int .i64 (H : Int)) := bX.cell 1
    have cX2 : W.drew.cell? ⟨Bx, 2, none⟩ = some (.string x.2.x) := bX.cell 2
    have lO := bO.lt
    have lS := b0.lt
    have lX := bX.lt
    have hroom : k + 1 ≤ es.length := hkl
    have hsx : (s.extract F H).size ≤ 281474976710656 := by rw [ByteArray.size_extract]; omega
    have g1 : (0 : Int) ≤ (F : Int) := by omega
    have g2 : (F : Int) ≤ (H : Int) := by omega
    have g3 : (H : Int) ≤ (s.size : Int) := by omega
    replace hrow : W.drew.ownsRow G 44 3 (bkV G k es.length) k xs := hrow
    replace bO : Boxed W.drew B6 22 (bkV G k es.length) := bO
    clear hfl hpc hTO hgo hxs hk hys hes' hpr hle hft htn hF hH b0 b2 bX hB hN N
    gi_wp2
    refine wpIn_region_any hmx ?_
    change wpAnyIn _ _ _ _ _ _ _ _ _ W.drew
    refine rinv.wpAnyIn_inv (BkV w v es.length s x TO F H Bx (bkV G k es.length) G B6 k es.length xs W.drew) ?step ?fin _ _ _ _ (by decide) ?start
    case start =>
      refine ⟨rfl, _, _, _, _, _, _, _, _, _, _, _, _, _, _, _, _, _, rfl, ?_⟩
      constructor <;> first | exact fun h => absurd h (by decide) | exact fun _ => Below.refl _ _
    case fin =>
      rintro listed a u ⟨hsl, v21, v22, v23, v24, v25, v26, v27, v28, v29, v30, v31, v32, v33, v34, v35, v36, v37, rfl, h⟩ hre
      have hno : ∀ i, i ∉ Region.ready _ _ listed := fun i hi => by rw [hre] at hi; cases hi
      have mk : ∀ i, i < 18 → _ → rinv.done listed i = true := fun i hi ha => by
        cases hq : rinv.done listed i with
        | true => rfl
        | false => exact absurd (rinv.ready_of hi hsl hq ha) (hno i)
      have k0 := mk 0 (by omega) (by simp)
      have k1 := mk 1 (by omega) (by simp)
      have k2 := mk 2 (by omega) (by simp)
      have k3 := mk 3 (by omega) (by simp)
      have k7 := mk 7 (by omega) (by simp)
      have k8 := mk 8 (by omega) (by simp)
      have k10 := mk 10 (by omega) (by simp)
      have k4 := mk 4 (by omega) (by simp [k3])
      have k5 := mk 5 (by omega) (by simp [k4])
      have k6 := mk 6 (by omega) (by simp [k2, k5])
      have k9 := mk 9 (by omega) (by simp [k8])
      have k11 := mk 11 (by omega) (by simp [k10])
      have k12 := mk 12 (by omega) (by simp [k7, k9, k11])
      have k13 := mk 13 (by omega) (by simp [k12])
      have k14 := mk 14 (by omega) (by simp [k1, k6, k13])
      have k15 := mk 15 (by omega) (by simp [k14])
      have k16 := mk 16 (by omega) (by simp [k0, k15, k13])
      have k17 := mk 17 (by omega) (by simp [k0, k1, k2, k3, k4, k5, k6, k7, k8, k9, k10, k11, k12, k13, k14, k15, k16])
      obtain ⟨z, w2, hz, hown', hgrow, rfl⟩ := h.w10 k17
      have hres := HGO.out z w2 _ hz hown' hgrow
      clear mk hno hre h k0 k1 k2 k3 k4 k5 k6 k7 k8 k9 k10 k11 k12 k13 k14 k15 k16 k17
      gi_wp2
      exact ⟨hres.1.from _, hres.2⟩
    case step =>
      rintro listed a u i ⟨hsl, v21, v22, v23, v24, v25, v26, v27, v28, v29, v30, v31, v32, v33, v34, v35, v36, v37, rfl, h⟩ hi
      obtain ⟨hlt18, hnot, haft⟩ := rinv.ready_mem hi
      have hd : rinv.done (listed.setIfInBounds i true) = fun k => (k == i) || rinv.done listed k := funext (rinv.done_set hnot)
      have hni := rinv.done_not hnot
      have hsl' : (listed.setIfInBounds i true).size = 18 := by rw [Array.size_setIfInBounds]; exact hsl
      have HD := Lib.hid hd; have HS := Lib.hid hsl'; have HN := Lib.hid hni; have HA := Lib.hid haft
      have HH := Lib.hid h
      clear hd hsl' hsl hnot hi hni haft h
      match i, hlt18 with
      | 0, _ =>
        refine rinv.wpOpIn_of_list rfl ?_
        have h16 := not_of (fun e => (HH.out.q16 e).1) HN.out
        have hc : u.cell? ⟨B6, 0, none⟩ = some (bkV G k es.length) := ((HH.out.early h16).cell (p := ⟨B6, 0, none⟩) lO).trans cO
        clear cO cS cX0 cX1 cX2 h16
        gi_wp2
        refine ⟨HS.out, _, _, _, _, _, _, _, _, _, _, _, _, _, _, _, _, _, rfl, ?_⟩
        rw [HD.out]
        exact { HH.out with p0 := fun _ => rfl, q16 := fun e => ⟨rfl, (HH.out.q16 e).2⟩ }
      | 1, _ =>
        refine rinv.wpOpIn_of_list rfl ?_
        clear cO cS cX0 cX1 cX2
        gi_wp2
        refine ⟨HS.out, _, _, _, _, _, _, _, _, _, _, _, _, _, _, _, _, _, rfl, ?_⟩
        rw [HD.out]
        exact { HH.out with p1 := fun _ => rfl, q14 := fun e => ⟨rfl, (HH.out.q14 e).2.1, (HH.out.q14 e).2.2⟩ }
      | 2, _ =>
        refine rinv.wpOpIn_of_list rfl ?_
        clear cO cS cX0 cX1 cX2
        gi_wp2
        refine ⟨HS.out, _, _, _, _, _, _, _, _, _, _, _, _, _, _, _, _, _, rfl, ?_⟩
        rw [HD.out]
        exact { HH.out with p2 := fun _ => rfl, q6 := fun e => ⟨rfl, (HH.out.q6 e).2⟩ }
      | 3, _ =>
        refine rinv.wpOpIn_of_list rfl ?_
        clear cO cS cX0 cX1 cX2
        gi_wp2
        refine ⟨HS.out, _, _, _, _, _, _, _, _, _, _, _, _, _, _, _, _, _, rfl, ?_⟩
        rw [HD.out]
        exact { HH.out with p3 := fun _ => rfl, q4 := fun e => rfl }
      | 4, _ =>
        refine rinv.wpOpIn_of_list rfl ?_
        have h2 : rinv.done listed 3 = true := by have h := HA.out; simp [Region.binds] at h; simp [h]
        have e3 := HH.out.p3 h2
        subst e3
        have H2 := Lib.hid h2
        have h15 := not_of (fun e => (HH.out.q5 (HH.out.q6 (HH.out.q14 (HH.out.q15 e)).2.1).2)) HN.out
        have h16 := not_of (fun e => (HH.out.q16 e).2) h15
        have hc : u.cell? ⟨Bx, 2, none⟩ = some (.string x.2.x) := ((HH.out.early h16).cell (p := ⟨Bx, 2, none⟩) lX).trans cX2
        clear cO cS cX0 cX1 cX2 h2 h16 h15
        gi_wp2
        refine ⟨HS.out, _, _, _, _, _, _, _, _, _, _, _, _, _, _, _, _, _, rfl, ?_⟩
        rw [HD.out]
        exact { HH.out with p4 := fun _ => rfl, q4 := fun _ => H2.out, q5 := fun e => rfl }
      | 5, _ =>
        refine rinv.wpOpIn_of_list rfl ?_
        have h2 : rinv.done listed 4 = true := by have h := HA.out; simp [Region.binds] at h; simp [h]
        have e4 := HH.out.p4 h2
        subst e4
        have H2 := Lib.hid h2
        clear cO cS cX0 cX1 cX2 h2
        gi_wp2
        refine ⟨HS.out, _, _, _, _, _, _, _, _, _, _, _, _, _, _, _, _, _, rfl, ?_⟩
        rw [HD.out]
        exact { HH.out with p5 := fun _ => rfl, q5 := fun _ => H2.out, q6 := fun e => ⟨(HH.out.q6 e).1, rfl⟩ }
      | 6, _ =>
        refine rinv.wpOpIn_of_list rfl ?_
        have h2 : rinv.done listed 2 = true ∧ rinv.done listed 5 = true := by have h := HA.out; simp [Region.binds] at h; simp [h]
        have e2 := HH.out.p2 h2.1
        have e5 := HH.out.p5 h2.2
        subst e2 e5
        have H2 := Lib.hid h2
        clear cO cS cX0 cX1 cX2 h2
        gi_wp2
        refine ⟨HS.out, _, _, _, _, _, _, _, _, _, _, _, _, _, _, _, _, _, rfl, ?_⟩
        rw [HD.out]
        exact { HH.out with p6 := fun _ => rfl, q6 := fun _ => H2.out, q14 := fun e => ⟨(HH.out.q14 e).1, rfl, (HH.out.q14 e).2.2⟩ }
      | 7, _ =>
        refine rinv.wpOpIn_of_list rfl ?_
        have h15 := not_of (fun e => (HH.out.q12 (HH.out.q13 (HH.out.q14 (HH.out.q15 e)).2.2)).1) HN.out
        have h16 := not_of (fun e => (HH.out.q16 e).2) h15
        have hc : u.cell? ⟨w.heap.size, 0, none⟩ = some (.string s) := ((HH.out.early h16).cell (p := ⟨w.heap.size, 0, none⟩) lS).trans cS
        clear cO cS cX0 cX1 cX2 h16 h15
        gi_wp2
        refine ⟨HS.out, _, _, _, _, _, _, _, _, _, _, _, _, _, _, _, _, _, rfl, ?_⟩
        rw [HD.out]
        exact { HH.out with p7 := fun _ => rfl, q12 := fun e => ⟨rfl, (HH.out.q12 e).2.1, (HH.out.q12 e).2.2⟩ }
      | 8, _ =>
        refine rinv.wpOpIn_of_list rfl ?_
        clear cO cS cX0 cX1 cX2
        gi_wp2
        refine ⟨HS.out, _, _, _, _, _, _, _, _, _, _, _, _, _, _, _, _, _, rfl, ?_⟩
        rw [HD.out]
        exact { HH.out with p8 := fun _ => rfl, q9 := fun e => rfl }
      | 9, _ =>
        refine rinv.wpOpIn_of_list rfl ?_
        have h2 : rinv.done listed 8 = true := by have h := HA.out; simp [Region.binds] at h; simp [h]
        have e8 := HH.out.p8 h2
        subst e8
        have H2 := Lib.hid h2
        have h15 := not_of (fun e => (HH.out.q12 (HH.out.q13 (HH.out.q14 (HH.out.q15 e)).2.2)).2.1) HN.out
        have h16 := not_of (fun e => (HH.out.q16 e).2) h15
        have hc : u.cell? ⟨Bx, 0, none⟩ = some (.int .i64 (F : Int)) := ((HH.out.early h16).cell (p := ⟨Bx, 0, none⟩) lX).trans cX0
        clear cO cS cX0 cX1 cX2 h2 h16 h15
        gi_wp2
        refine ⟨HS.out, _, _, _, _, _, _, _, _, _, _, _, _, _, _, _, _, _, rfl, ?_⟩
        rw [HD.out]
        exact { HH.out with p9 := fun _ => rfl, q9 := fun _ => H2.out, q12 := fun e => ⟨(HH.out.q12 e).1, rfl, (HH.out.q12 e).2.2⟩ }
      | 10, _ =>
        refine rinv.wpOpIn_of_list rfl ?_
        clear cO cS cX0 cX1 cX2
        gi_wp2
        refine ⟨HS.out, _, _, _, _, _, _, _, _, _, _, _, _, _, _, _, _, _, rfl, ?_⟩
        rw [HD.out]
        exact { HH.out with p10 := fun _ => rfl, q11 := fun e => rfl }
      | 11, _ =>
        refine rinv.wpOpIn_of_list rfl ?_
        have h2 : rinv.done listed 10 = true := by have h := HA.out; simp [Region.binds] at h; simp [h]
        have e10 := HH.out.p10 h2
        subst e10
        have H2 := Lib.hid h2
        have h15 := not_of (fun e => (HH.out.q12 (HH.out.q13 (HH.out.q14 (HH.out.q15 e)).2.2)).2.2) HN.out
        have h16 := not_of (fun e => (HH.out.q16 e).2) h15
        have hc : u.cell? ⟨Bx, 1, none⟩ = some (.int .i64 (H : Int)) := ((HH.out.early h16).cell (p := ⟨Bx, 1, none⟩) lX).trans cX1
        clear cO cS cX0 cX1 cX2 h2 h16 h15
        gi_wp2
        refine ⟨HS.out, _, _, _, _, _, _, _, _, _, _, _, _, _, _, _, _, _, rfl, ?_⟩
        rw [HD.out]
        exact { HH.out with p11 := fun _ => rfl, q11 := fun _ => H2.out, q12 := fun e => ⟨(HH.out.q12 e).1, (HH.out.q12 e).2.1, rfl⟩ }
      | 12, _ =>
        refine rinv.wpOpIn_of_list rfl ?_
        have h2 : rinv.done listed 7 = true ∧ rinv.done listed 9 = true ∧ rinv.done listed 11 = true := by have h := HA.out; simp [Region.binds] at h; simp [h]
        have e7 := HH.out.p7 h2.1
        have e9 := HH.out.p9 h2.2.1
        have e11 := HH.out.p11 h2.2.2
        subst e7 e9 e11
        have H2 := Lib.hid h2
        clear cO cS cX0 cX1 cX2 h2
        gi_wp2
        refine ⟨HS.out, _, _, _, _, _, _, _, _, _, _, _, _, _, _, _, _, _, rfl, ?_⟩
        rw [HD.out]
        exact { HH.out with p12 := fun _ => rfl, q12 := fun _ => H2.out, q13 := fun e => rfl }
      | 13, _ =>
        refine rinv.wpOpIn_of_list rfl ?_
        have h2 : rinv.done listed 12 = true := by have h := HA.out; simp [Region.binds] at h; simp [h]
        have e12 := HH.out.p12 h2
        subst e12
        have H2 := Lib.hid h2
        have h15 := not_of (fun e => (HH.out.q14 (HH.out.q15 e)).2.2) HN.out
        have h16 := not_of (fun e => (HH.out.q16 e).2) h15
        have h17 := not_of HH.out.q17 h16
        have hu := HH.out.w7 h15
        have H15 := Lib.hid h15; have H16 := Lib.hid h16; have H17 := Lib.hid h17
        clear cO cS cX0 cX1 cX2 h2 h15 h16 h17
        gi_wp2_with (gi_at_call 30; refine (CallsIn.inRound l (callsIn_wide.2 (clone_calls _ _ hsx))).mono ?_; rintro e w' ⟨rfl, hb⟩)
        refine ⟨HS.out, _, _, _, _, _, _, _, _, _, _, _, _, _, _, _, _, _, rfl, ?_⟩
        rw [HD.out]
        exact { HH.out with
          p13 := fun _ => rfl, q13 := fun _ => H2.out, q14 := fun e => ⟨(HH.out.q14 e).1, (HH.out.q14 e).2.1, rfl⟩
          w7 := fun _ => hu.trans (hb.mono hu.size)
          w8 := fun e _ => absurd (show rinv.done listed 15 = true from e) (by rw [H15.out]; simp)
          w9 := fun e _ => absurd (show rinv.done listed 16 = true from e) (by rw [H16.out]; simp)
          w10 := fun e => absurd (show rinv.done listed 17 = true from e) (by rw [H17.out]; simp) }
      | 14, _ =>
        refine rinv.wpOpIn_of_list rfl ?_
        have h2 : rinv.done listed 1 = true ∧ rinv.done listed 6 = true ∧ rinv.done listed 13 = true := by have h := HA.out; simp [Region.binds] at h; simp [h]
        have e1 := HH.out.p1 h2.1
        have e6 := HH.out.p6 h2.2.1
        have e13 := HH.out.p13 h2.2.2
        subst e1 e6 e13
        have H2 := Lib.hid h2
        clear cO cS cX0 cX1 cX2 h2
        gi_wp2
        refine ⟨HS.out, _, _, _, _, _, _, _, _, _, _, _, _, _, _, _, _, _, rfl, ?_⟩
        rw [HD.out]
        exact { HH.out with p14 := fun _ => rfl, q14 := fun _ => H2.out, q15 := fun e => rfl }
      | 15, _ =>
        refine rinv.wpOpIn_of_list rfl ?_
        have h2 : rinv.done listed 14 = true := by have h := HA.out; simp [Region.binds] at h; simp [h]
        have e14 := HH.out.p14 h2
        subst e14
        have H2 := Lib.hid h2
        have h16 := not_of (fun e => (HH.out.q16 e).2) HN.out
        have h17 := not_of HH.out.q17 h16
        have hu := HH.out.w7 HN.out
        have H16 := Lib.hid h16; have H17 := Lib.hid h17
        clear cO cS cX0 cX1 cX2 h2 h16 h17
        gi_wp2
        refine ⟨HS.out, _, _, _, _, _, _, _, _, _, _, _, _, _, _, _, _, _, rfl, ?_⟩
        rw [HD.out]
        exact { HH.out with
          q15 := fun _ => H2.out, q16 := fun e => ⟨(HH.out.q16 e).1, rfl⟩
          w7 := fun e => by cases e
          w8 := fun _ _ => ⟨u, hu, rfl, rfl⟩
          w9 := fun e _ => absurd (show rinv.done listed 16 = true from e) (by rw [H16.out]; simp)
          w10 := fun e => absurd (show rinv.done listed 17 = true from e) (by rw [H17.out]; simp) }
      | 16, _ =>
        refine rinv.wpOpIn_of_list rfl ?_
        have h2 : rinv.done listed 0 = true ∧ rinv.done listed 15 = true := by have h := HA.out; simp [Region.binds] at h; simp [h]
        have e0 := HH.out.p0 h2.1
        subst e0
        have H2 := Lib.hid h2
        obtain ⟨z, hz, rfl, e36⟩ := HH.out.w8 h2.2 HN.out
        subst e36
        have h17 := not_of HH.out.q17 HN.out
        have H17 := Lib.hid h17
        have hrz := ownsRow_below hrow hz
        have hzs := hz.size
        clear cO cS cX0 cX1 cX2 h2 h17
        refine wpListIn_append_fits _ rfl _ _ 22 rfl G 44 i0 3 Try.underlying22 hi hz1 G k es.length _ rfl (hrz.alloc _) ⟨z.heap.size, 0, none⟩ 1 1 [.int .i64 x.1, .int .i64 TO, .string (s.extract F H)] rfl rfl (cell_new3 _ _ _ _ _) (by simp [Value.oneCell']) hroom ?_
        intro w2 hown' hgrow
        gi_wp2
        refine ⟨HS.out, _, _, _, _, _, _, _, _, _, _, _, _, _, _, _, _, _, rfl, ?_⟩
        rw [HD.out]
        exact { HH.out with
          q16 := fun _ => H2.out, q17 := fun e => rfl
          w7 := fun e => absurd (show rinv.done listed 15 = false from e) (by rw [H2.out.2]; simp)
          w8 := fun _ e => by cases e
          w9 := fun _ _ => ⟨z, hz, hown', rfl, hgrow⟩
          w10 := fun e => absurd (show rinv.done listed 17 = true from e) (by rw [H17.out]; simp) }
      | 17, _ =>
        refine rinv.wpOpIn_of_list rfl ?_
        have h2 : rinv.done listed 16 = true := by have h := HA.out; simp [Region.binds] at h; simp [h]
        have H2 := Lib.hid h2
        obtain ⟨z, hz, hown', e37, hgrow⟩ := HH.out.w9 h2 HN.out
        subst e37
        have h15 : rinv.done listed 15 = true := (HH.out.q16 h2).2
        have H15 := Lib.hid h15
        have hap : Boxed u B6 22 (bkV G k es.length) := ((Boxed.alloc (W := z) ((hz.block _ bO.lt).trans bO) (.cells #[.int .i64 x.1, .int .i64 TO, .string (s.extract F H)] 44)).kept hgrow (by simp; omega))
        have hc1 := hap.cell
        have hf1 := hap.frozen
        clear cO cS cX0 cX1 cX2 h2 h15
        gi_wp2
        refine ⟨HS.out, _, _, _, _, _, _, _, _, _, _, _, _, _, _, _, _, _, rfl, ?_⟩
        rw [HD.out]
        exact { HH.out with
          q17 := fun _ => H2.out
          w7 := fun e => absurd (show rinv.done listed 15 = false from e) (by rw [H15.out]; simp)
          w8 := fun _ e => absurd (show rinv.done listed 16 = false from e) (by rw [H2.out]; simp)
          w9 := fun _ e => by cases e
          w10 := fun _ => ⟨z, u, hz, hown', hgrow, rfl⟩ }
      | (j + 18), h => exact absurd h (by simp)
  case done =>
    rintro D W hD hI hK
    obtain ⟨⟨⟨⟨hrow, b0⟩, b1⟩, b2⟩, hB⟩ := hI
    have c1 := b1.cell
    have hrow' : W.ownsRow G 44 3 (bkV G (placed 0 es).length es.length) (backL s es).length (flat (backL s es)) := by unfold backL; rw [List.length_map]; exact hrow
    have HRW := Lib.hid hrow'
    clear hrow hrow'
    gi_wp2
    refine ⟨by simp, .inl ⟨_, _, rfl, run_takeDeferred hK, ?_⟩⟩
    refine ⟨_, ?_, bkV G (placed 0 es).length es.length, rfl, EdsAt.row (ownsRow_putObj HRW.out _ hK rfl), hB.trans (belowK_b (w := w) (Nat.le_refl _) _ D _ _ (by omega) hK rfl rfl)⟩
    simp [results, Try.f24, go_sem]

/-- edit.Back. -/
theorem back_calls (s : ByteArray) (hs : s.size ≤ 140737488355328) (v : Value) (es : List Ed) (w : World) (hes : EdsAt w.heap.size w v es) :
    Calls Try.prog 24 #[.string s, v] w fun e W' => ∃ u, e = .returned (.tuple #[u, .int .u16 (backR s es).2]) ∧ EdsAt W'.heap.size W' u (backR s es).1 ∧ Below w.heap.size w W' := by
  unfold backR
  cases hr : rightF es s.size with
  | true => exact callsIn_wide.1 (back_right 5 (Nat.le_refl _) s hs v es w hes hr)
  | false =>
    refine (callsIn_wide.1 (back_wrong 4 (Nat.le_refl _) s v es w hes hr)).mono ?_
    rintro e W' ⟨rfl, hb⟩
    exact ⟨_, rfl, EdsAt.nil _ _, hb⟩
end Go.Proofs.Ytepniobmhplphaa.ed
