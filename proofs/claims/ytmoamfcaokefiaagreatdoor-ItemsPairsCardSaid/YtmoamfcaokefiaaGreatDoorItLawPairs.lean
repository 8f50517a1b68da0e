/-
  subeditorlaw05.ItemsPairs: for every input it returns true, and the arguments read as they did. No condition.
-/
import Derived.Test.YtmoamfcaokefiaaGreatDoorItAll
import Derived.Deep.RegionHeld3
import Derived.Test.YtmoamfcaokefiaaGreatDoorCards
import Derived.Test.YtmoamfcaokefiaaGreatDoorTie
import Derived.SevenTiedAt
namespace Go.Proofs.YtmoamfcaokefiaaGreatDoor.itemsPairs
open Go.RowKit Go.ChangeShapes Go.WideShapes Go.ChangeAt Go.ChangeMaps
open sg (OpsAt lst_len)
open lx
set_option linter.unusedVariables false

open it
def wS : List Tk := [(3, ⟨#[97]⟩), (3, ⟨#[97, 110, 100]⟩), (6, ⟨#[49]⟩), (6, ⟨#[49, 46, 53]⟩)]
def pS : List Tk := [(13, ⟨#[40]⟩), (13, ⟨#[41]⟩), (13, ⟨#[91]⟩), (13, ⟨#[93]⟩)]
def pairsOk (x y z : Tk) : Bool :=
  !tightB x y && tightB x z && tightB z x && tightB z z && decide (lineU ([x, y, z].filter (fun t => !idleB t.1)) 3 = (x.2 ++ (⟨#[32]⟩ : ByteArray) ++ y.2 ++ z.2).data.toList)
    && decide (x.2.size ≤ 3 ∧ y.2.size ≤ 3 ∧ z.2.size ≤ 3 ∧ 0 ≤ x.1 ∧ x.1 ≤ 13 ∧ 0 ≤ y.1 ∧ y.1 ≤ 13 ∧ 0 ≤ z.1 ∧ z.1 ≤ 13)
theorem pairs_all : (wS.all fun x => wS.all fun y => pS.all fun z => pairsOk x y z) = true := by decide +kernel
def cellsOfS (l : List Tk) : Array Value := (l.flatMap fun t => [.int .i64 t.1, .string t.2]).toArray
theorem cells_at {W : World} {g : Nat} {l : List Tk} (h : sx.Blk W g 24 (cellsOfS l)) (i : Nat) (t : Tk) (ht : l[i]? = some t) : W.cell? ⟨g, i * 2, none⟩ = some (.int .i64 t.1) ∧ W.cell? ⟨g, i * 2 + 1, none⟩ = some (.string t.2) := by
  have key : ∀ (l : List Tk) (i : Nat), l[i]? = some t → (l.flatMap fun t => [Value.int .i64 t.1, .string t.2])[i * 2]? = some (.int .i64 t.1) ∧ (l.flatMap fun t => [Value.int .i64 t.1, .string t.2])[i * 2 + 1]? = some (.string t.2) := by
    intro l
    induction l with
    | nil => intro i hi; cases hi
    | cons u r ih =>
      intro i hi
      cases i with
      | zero => cases hi; exact ⟨rfl, rfl⟩
      | succ i =>
        have := ih i (by simpa using hi)
        rw [show (i + 1) * 2 = i * 2 + 2 by omega]
        simpa using this
  obtain ⟨h1, h2⟩ := key l i ht
  have hb : W.heap[g]? = some (.cells (cellsOfS l) 24 (0, 0)) := h
  constructor
  · unfold World.cell?
    simp [hb, cellsOfS, h1]
  · unfold World.cell?
    simp [hb, cellsOfS, h2]
abbrev S5 (W5 : World) (bx by' bz : Nat) (kx ky kz : Int) (tx ty tz : ByteArray) (u : World) : Prop :=
  (u.cell? ⟨bx, 0, none⟩ = some (.int .i64 kx) ∧ u.cell? ⟨bx, 1, none⟩ = some (.string tx) ∧ u.cell? ⟨by', 0, none⟩ = some (.int .i64 ky) ∧ u.cell? ⟨by', 1, none⟩ = some (.string ty) ∧
    u.cell? ⟨bz, 0, none⟩ = some (.int .i64 kz) ∧ u.cell? ⟨bz, 1, none⟩ = some (.string tz)) ∧ Below W5.heap.size W5 u
theorem S5.step {W5 : World} {bx by' bz : Nat} {kx ky kz : Int} {tx ty tz : ByteArray} {u u' : World} (h : S5 W5 bx by' bz kx ky kz tx ty tz u) (hb : Below u.heap.size u u') : S5 W5 bx by' bz kx ky kz tx ty tz u' := by
  obtain ⟨⟨h1, h2, h3, h4, h5, h6⟩, hB⟩ := h
  have lt : ∀ (p : Addr) v, u.cell? p = some v → u'.cell? p = some v := fun p v hp => (hb.cell (World.block_lt_of_cell? u p hp)).trans hp
  exact ⟨⟨lt _ _ h1, lt _ _ h2, lt _ _ h3, lt _ _ h4, lt _ _ h5, lt _ _ h6⟩, hB.trans (hb.mono hB.size)⟩
theorem S5.more {W5 : World} {bx by' bz : Nat} {kx ky kz : Int} {tx ty tz : ByteArray} {u : World} (h : S5 W5 bx by' bz kx ky kz tx ty tz u) (o : Obj) : S5 W5 bx by' bz kx ky kz tx ty tz (u.alloc o) :=
  h.step ((Below.refl _ u).alloc (Nat.le_refl _) o)
/-- What stands in the region. -/
structure Facts (kx ky kz : Int) (tx ty tz Z : ByteArray) : Prop where
  t1 : tightB (kx, tx) (ky, ty) = false
  t2 : tightB (kx, tx) (kz, tz) = true
  t3 : tightB (kz, tz) (kx, tx) = true
  t4 : tightB (kz, tz) (kz, tz) = true
  l1 : (⟨(lineU ([(kx, tx), (ky, ty), (kz, tz)].filter (fun t => !idleB t.1)) 3).toArray⟩ : ByteArray) = Z
  l2 : tx ++ (⟨#[32]⟩ : ByteArray) ++ ty ++ tz = Z
  s1 : tx.size ≤ 3
  s2 : ty.size ≤ 3
  s3 : tz.size ≤ 3
  fit : ∀ t ∈ [(kx, tx), (ky, ty), (kz, tz)], Fits t
theorem line3 {kx ky kz : Int} {tx ty tz Z : ByteArray} (F : Facts kx ky kz tx ty tz Z) (u : World) (hw : OpsAt (u.alloc (.cells #[.int .i64 kx, .string tx, .int .i64 ky, .string ty, .int .i64 kz, .string tz] 24))) :
    Calls Tryz.prog 16 #[.slice (some ⟨u.heap.size, 0, none⟩) 3 3] (u.alloc (.cells #[.int .i64 kx, .string tx, .int .i64 ky, .string ty, .int .i64 kz, .string tz] 24)) fun e w' => e = .returned (.string Z) ∧ Below (u.alloc (.cells #[.int .i64 kx, .string tx, .int .i64 ky, .string ty, .int .i64 kz, .string tz] 24)).heap.size (u.alloc (.cells #[.int .i64 kx, .string tx, .int .i64 ky, .string ty, .int .i64 kz, .string tz] 24)) w' := by
  have hk : sx.Blk (u.alloc (.cells #[.int .i64 kx, .string tx, .int .i64 ky, .string ty, .int .i64 kz, .string tz] 24)) u.heap.size 24 (cellsOfS [(kx, tx), (ky, ty), (kz, tz)]) := sx.Blk.new u _ _
  have hlt : u.heap.size < (u.alloc (.cells #[.int .i64 kx, .string tx, .int .i64 ky, .string ty, .int .i64 kz, .string tz] 24)).heap.size := by simp
  have h := line_calls (.slice (some ⟨u.heap.size, 0, none⟩) 3 3) [(kx, tx), (ky, ty), (kz, tz)] _ ⟨some ⟨u.heap.size, 0, none⟩, 3, rfl, (by unfold maxLen; simp), fun j t ht => ⟨u.heap.size, 0, rfl, hlt, by rw [Nat.zero_add]; exact (cells_at hk j t ht).1, by rw [Nat.zero_add]; exact (cells_at hk j t ht).2⟩⟩
    F.fit (by simp only [manyT, List.map_cons, List.map_nil, List.sum_cons, List.sum_nil]; have := F.s1; have := F.s2; have := F.s3; omega) hw
  have hl : [(kx, tx), (ky, ty), (kz, tz)].length = 3 := rfl
  rw [hl, F.l1] at h
  exact h
set_option maxRecDepth 100000 in
set_option maxHeartbeats 8000000 in
theorem core (a b q : Int) (i j k : Nat) (x y z : Tk) (ha : Int.tmod a 4 = (i : Int)) (hb : Int.tmod b 4 = (j : Int)) (hq : Int.tdiv b 4 = q) (hq1 : q % 256 = q) (hqk : q % 4 = (k : Int)) (hqt : Int.tmod q 4 = (k : Int)) (hi4 : i < 4) (hj4 : j < 4) (hk4 : k < 4) (hx : wS[i]? = some x) (hy : wS[j]? = some y) (hz : pS[k]? = some z) (Z : ByteArray) (F : Facts x.1 y.1 z.1 x.2 y.2 z.2 Z) (w : World) (hw : OpsAt w) :
    Calls Tryz.prog 8 #[.int .u8 a, .int .u8 b] w fun e W' => e = .returned (.bool true) ∧ Below w.heap.size w W' := by
  have ha1 : (i : Int) < 4 := by omega
  have ha0 : (0 : Int) ≤ (i : Int) := by omega
  have hb1 : (j : Int) < 4 := by omega
  have hb0 : (0 : Int) ≤ (j : Int) := by omega
  have hk1 : (k : Int) < 4 := by omega
  have hk0 : (0 : Int) ≤ (k : Int) := by omega
  go_enter Tryz.func8, Tryz.ntmps8
  obtain ⟨W2, hW2⟩ : ∃ W2, (w.alloc (.cells (cellsOfS wS) 24)).alloc (.cells (cellsOfS pS) 24) = W2 := ⟨_, rfl⟩
  have hb2 : Below w.heap.size w W2 := by rw [← hW2]; exact ((Below.refl _ w).alloc (Nat.le_refl _) _).alloc (by simp) _
  have kw : sx.Blk W2 w.heap.size 24 (cellsOfS wS) := by rw [← hW2]; exact (sx.Blk.new w _ _).alloc _
  have kp : sx.Blk W2 (w.heap.size + 1) 24 (cellsOfS pS) := by
    have := sx.Blk.new (w.alloc (.cells (cellsOfS wS) 24)) 24 (cellsOfS pS)
    rw [hW2] at this
    simpa using this
  obtain ⟨kx, tx⟩ := x
  obtain ⟨c0, c1⟩ := cells_at kw i _ hx
  go_upto_region 3 with fail
  rw [show ∀ A B : Array Value, A = cellsOfS wS → B = cellsOfS pS → (w.alloc (.cells A 24)).alloc (.cells B 24) = W2 from fun A B hA hB => by rw [hA, hB]; exact hW2]
  rotate_left
  · rfl
  · rfl
  simp only at c0 c1
  go_upto_region 4 with fail
  obtain ⟨W3, hW3⟩ : ∃ W3, W2.alloc (.cells #[.int .i64 kx, .string tx] 24) = W3 := ⟨_, rfl⟩
  have hb3 : Below W2.heap.size W2 W3 := by rw [← hW3]; exact (Below.refl _ W2).alloc (Nat.le_refl _) _
  have kx3 : sx.Blk W3 W2.heap.size 24 #[.int .i64 kx, .string tx] := by rw [← hW3]; exact sx.Blk.new W2 _ _
  rw [hW3]
  obtain ⟨ky, ty⟩ := y
  obtain ⟨d0, d1⟩ := cells_at (kw.own hb3) j _ hy
  simp only at d0 d1
  clear c0 c1
  go_upto_region 5 with fail
  obtain ⟨W4, hW4⟩ : ∃ W4, W3.alloc (.cells #[.int .i64 ky, .string ty] 24) = W4 := ⟨_, rfl⟩
  have hb4 : Below W3.heap.size W3 W4 := by rw [← hW4]; exact (Below.refl _ W3).alloc (Nat.le_refl _) _
  have ky4 : sx.Blk W4 W3.heap.size 24 #[.int .i64 ky, .string ty] := by rw [← hW4]; exact sx.Blk.new W3 _ _
  rw [hW4]
  obtain ⟨kz, tz⟩ := z
  obtain ⟨e0, e1⟩ := cells_at ((kp.own hb3).own hb4) k _ hz
  simp only at e0 e1
  clear d0 d1
  go_upto_region 6 with fail
  obtain ⟨W5, hW5⟩ : ∃ W5, W4.alloc (.cells #[.int .i64 kz, .string tz] 24) = W5 := ⟨_, rfl⟩
  have hb5 : Below W4.heap.size W4 W5 := by rw [← hW5]; exact (Below.refl _ W4).alloc (Nat.le_refl _) _
  have kz5 : sx.Blk W5 W4.heap.size 24 #[.int .i64 kz, .string tz] := by rw [← hW5]; exact sx.Blk.new W4 _ _
  rw [hW5]
  have kx5 := (kx3.own hb4).own hb5
  have ky5 := ky4.own hb5
  have hB5 := ((hb2.trans (hb3.mono hb2.size)).trans (hb4.mono (Nat.le_trans hb2.size hb3.size))).trans (hb5.mono (Nat.le_trans (Nat.le_trans hb2.size hb3.size) hb4.size))
  simp only at F
  have hw5 := hw.own hB5
  have b0 : W5.cell? ⟨W2.heap.size, 0, none⟩ = some (.int .i64 kx) := kx5.cell 0
  have b1 : W5.cell? ⟨W2.heap.size, 1, none⟩ = some (.string tx) := kx5.cell 1
  have b2 : W5.cell? ⟨W3.heap.size, 0, none⟩ = some (.int .i64 ky) := ky5.cell 0
  have b3 : W5.cell? ⟨W3.heap.size, 1, none⟩ = some (.string ty) := ky5.cell 1
  have b4 : W5.cell? ⟨W4.heap.size, 0, none⟩ = some (.int .i64 kz) := kz5.cell 0
  have b5 : W5.cell? ⟨W4.heap.size, 1, none⟩ = some (.string tz) := kz5.cell 1
  obtain ⟨bx, hbx⟩ : ∃ b, W2.heap.size = b := ⟨_, rfl⟩
  obtain ⟨by', hby⟩ : ∃ b, W3.heap.size = b := ⟨_, rfl⟩
  obtain ⟨bz, hbz⟩ : ∃ b, W4.heap.size = b := ⟨_, rfl⟩
  rw [hbx] at b0 b1
  rw [hby] at b2 b3
  rw [hbz] at b4 b5
  rw [hbx, hby, hbz]
  have T1 := fun u (h : S5 W5 bx by' bz kx ky kz tx ty tz u) => tight_calls (kx, tx) (ky, ty) u (hw5.own h.2) (by have := F.s1; have := F.s2; simp only; omega)
  have T2 := fun u (h : S5 W5 bx by' bz kx ky kz tx ty tz u) => tight_calls (kx, tx) (kz, tz) u (hw5.own h.2) (by have := F.s1; have := F.s3; simp only; omega)
  have T3 := fun u (h : S5 W5 bx by' bz kx ky kz tx ty tz u) => tight_calls (kz, tz) (kx, tx) u (hw5.own h.2) (by have := F.s1; have := F.s3; simp only; omega)
  have T4 := fun u (h : S5 W5 bx by' bz kx ky kz tx ty tz u) => tight_calls (kz, tz) (kz, tz) u (hw5.own h.2) (by have := F.s3; simp only; omega)
  have T0 := fun u (h : S5 W5 bx by' bz kx ky kz tx ty tz u) => it.known_calls u (hw5.own h.2)
  have T5 := fun u (h : S5 W5 bx by' bz kx ky kz tx ty tz (u.alloc (.cells #[.int .i64 kx, .string tx, .int .i64 ky, .string ty, .int .i64 kz, .string tz] 24))) => line3 F u (hw5.own h.2)
  simp only [F.t1, F.t2, F.t3, F.t4] at T1 T2 T3 T4
  have n1 : tx.size + 1 ≤ 9223372036854775807 := by have := F.s1; omega
  have n1' : tx.size + (⟨#[32]⟩ : ByteArray).size ≤ 9223372036854775807 := n1
  have n2 : (tx ++ (⟨#[32]⟩ : ByteArray)).size + ty.size ≤ 9223372036854775807 := by rw [ByteArray.size_append]; have := F.s1; have := F.s2; show tx.size + 1 + ty.size ≤ _; omega
  have n3 : (tx ++ (⟨#[32]⟩ : ByteArray) ++ ty).size + tz.size ≤ 9223372036854775807 := by rw [ByteArray.size_append, ByteArray.size_append]; have := F.s1; have := F.s2; have := F.s3; show tx.size + 1 + ty.size + tz.size ≤ _; omega
  have n4 : tx.size + 1 + ty.size ≤ 9223372036854775807 := by have := F.s1; have := F.s2; omega
  have n5 : tx.size + 1 + ty.size + tz.size ≤ 9223372036854775807 := by have := F.s1; have := F.s2; have := F.s3; omega
  have m4 : ¬ 9223372036854775807 < tx.size + 1 + ty.size := by omega
  have m5 : ¬ 9223372036854775807 < tx.size + 1 + ty.size + tz.size := by omega
  have m1 : ¬ 9223372036854775807 < tx.size + 1 := by omega
  have m2 : ¬ 9223372036854775807 < (tx ++ (⟨#[32]⟩ : ByteArray)).size + ty.size := by omega
  have m3 : ¬ 9223372036854775807 < (tx ++ (⟨#[32]⟩ : ByteArray) ++ ty).size + tz.size := by omega
  have hq : (Z.toList == (tx ++ (⟨#[32]⟩ : ByteArray) ++ ty ++ tz).toList) = true := by rw [F.l2]; exact beq_self_eq_true _
  have HB5 := Lib.hid hB5
  clear e0 e1 hW2 hW3 hW4 hW5 kw kp kx3 ky4 hb2 hb3 hb4 hb5 F hx hy hz kx5 ky5 kz5 hB5 hbx hby hbz hw hw5
  go_region_held3 (fun u => (u.cell? ⟨bx, 0, none⟩ = some (.int .i64 kx) ∧ u.cell? ⟨bx, 1, none⟩ = some (.string tx) ∧ u.cell? ⟨by', 0, none⟩ = some (.int .i64 ky) ∧ u.cell? ⟨by', 1, none⟩ = some (.string ty) ∧ u.cell? ⟨bz, 0, none⟩ = some (.int .i64 kz) ∧ u.cell? ⟨bz, 1, none⟩ = some (.string tz)) ∧ Below W5.heap.size W5 u)
    (first
      | assumption
      | exact ⟨⟨b0, b1, b2, b3, b4, b5⟩, (Below.refl _ _).drew⟩
      | exact S5.step (by assumption) (by assumption)
      | exact S5.more (by assumption) _)
    (first
      | (go_at_call 11; with_reducible refine (T0 _ (by assumption)).mono ?_; rintro _ u1 ⟨rfl, hbn⟩)
      | (go_at_call 20; with_reducible refine (T1 _ (by assumption)).mono ?_; rintro _ u1 ⟨rfl, hbn⟩)
      | (go_at_call 20; with_reducible refine (T2 _ (by assumption)).mono ?_; rintro _ u1 ⟨rfl, hbn⟩)
      | (go_at_call 20; with_reducible refine (T3 _ (by assumption)).mono ?_; rintro _ u1 ⟨rfl, hbn⟩)
      | (go_at_call 20; with_reducible refine (T4 _ (by assumption)).mono ?_; rintro _ u1 ⟨rfl, hbn⟩)
      | (go_at_call 16; with_reducible refine (T5 _ (by assumption)).mono ?_; rintro _ u1 ⟨rfl, hbn⟩))
  go_wp2_with fail
  rename_i hHeld
  go_ret
  exact ⟨rfl, HB5.out.trans (hHeld.2.mono HB5.out.size)⟩
theorem facts_of {x y z : Tk} (hx : x ∈ wS) (hy : y ∈ wS) (hz : z ∈ pS) : Facts x.1 y.1 z.1 x.2 y.2 z.2 (x.2 ++ (⟨#[32]⟩ : ByteArray) ++ y.2 ++ z.2) := by
  have h := List.all_eq_true.1 (List.all_eq_true.1 (List.all_eq_true.1 pairs_all x hx) y hy) z hz
  unfold pairsOk at h
  simp only [Bool.and_eq_true, decide_eq_true_eq, Bool.not_eq_true'] at h
  obtain ⟨⟨⟨⟨⟨h1, h2⟩, h3⟩, h4⟩, h5⟩, s1, s2, s3, a1, a2, a3, a4, a5, a6⟩ := h
  refine ⟨h1, h2, h3, h4, ?_, rfl, s1, s2, s3, ?_⟩
  · show (⟨(lineU ([x, y, z].filter (fun t => !idleB t.1)) 3).toArray⟩ : ByteArray) = _
    rw [h5]
  · have wf : ∀ t : Tk, 0 ≤ t.1 → t.1 ≤ 13 → t.2.size ≤ 3 → Fits t := fun t h1 h2 h3 => ⟨by simp [Lit.wf, IntKind.min, IntKind.max, IntKind.signed, IntKind.bits]; omega, by unfold maxLen; omega⟩
    intro t ht
    simp only [List.mem_cons, List.not_mem_nil, or_false] at ht
    rcases ht with rfl | rfl | rfl
    · exact wf _ a1 a2 s1
    · exact wf _ a3 a4 s2
    · exact wf _ a5 a6 s3
theorem walk (a b : Int) (ha0 : 0 ≤ a) (ha1 : a ≤ 255) (hb0 : 0 ≤ b) (hb1 : b ≤ 255) (w : World) (hw : OpsAt w) :
    Calls Tryz.prog 8 #[.int .u8 a, .int .u8 b] w fun e W' => e = .returned (.bool true) ∧ Below w.heap.size w W' := by
  obtain ⟨a, rfl⟩ : ∃ n : Nat, a = (n : Int) := ⟨a.toNat, by omega⟩
  obtain ⟨b, rfl⟩ : ∃ n : Nat, b = (n : Int) := ⟨b.toNat, by omega⟩
  have hi4 : a % 4 < 4 := Nat.mod_lt _ (by decide)
  have hj4 : b % 4 < 4 := Nat.mod_lt _ (by decide)
  have hk4 : b / 4 % 4 < 4 := Nat.mod_lt _ (by decide)
  obtain ⟨x, hx⟩ : ∃ x, wS[a % 4]? = some x := ⟨_, List.getElem?_eq_getElem hi4⟩
  obtain ⟨y, hy⟩ : ∃ x, wS[b % 4]? = some x := ⟨_, List.getElem?_eq_getElem hj4⟩
  obtain ⟨z, hz⟩ : ∃ x, pS[b / 4 % 4]? = some x := ⟨_, List.getElem?_eq_getElem hk4⟩
  refine core (a : Int) (b : Int) ((b / 4 : Nat) : Int) (a % 4) (b % 4) (b / 4 % 4) x y z ?_ ?_ ?_ ?_ ?_ ?_ hi4 hj4 hk4 hx hy hz _ (facts_of (List.mem_of_getElem? hx) (List.mem_of_getElem? hy) (List.mem_of_getElem? hz)) w hw
  · rfl
  · rfl
  · rfl
  · omega
  · rfl
  · rfl

set_option maxRecDepth 100000 in
theorem lifted (os : Os) (started : os.Started) (H : Type) (enc : TypeId × Value → H) :
    ReturnsInHanded {} Tryz.checked os 8 .any (fun w args => (Rows.itemsPairsSpec.pre enc Tryz.prog Tryz.f8 Rows.itemsPairsRow.domain false w args ∧ laidMetH Tryz.prog lx.laid w) ∧ sizedMet enc Tryz.prog Tryz.f8 (OpenSpec.ofChange Rows.itemsPairsSpec) false w args) (Rows.itemsPairsSpec.post enc Tryz.prog Tryz.f8 false true false false) := by
  refine returnsInHanded_of_change_and (C := Tryz.checked) (X := fun w _ => laidMetH Tryz.prog lx.laid w) (fun _ _ _ hh h => h.of_heap hh) law.own started (by kernel_rfl) Tryz.func8
    (ChangeSpec.witness_shaped (enc := enc) (C := Tryz.checked) (os := os) (X := fun w _ => laidMetH Tryz.prog lx.laid w) false (World.laidAll Tryz.prog os lx.laid) #[.int .u8 0, .int .u8 0] 8 (World.laidAll_os _ _ _) (World.shaped_of_ZipB (by kernel_rfl) (by kernel_rfl)) (by kernel_rfl) (by kernel_rfl) (by kernel_rfl) (lx.laid_met os _)) ?_
  intro W base args ds gs before hval0 hW _ hsize0 hL _
  have hsize : (DataW.weightsEach Tryz.prog (Tryz.f8.params.toList ++ _) (ds ++ gs)).all (· ≤ reachBytes) = true := hsize0
  have hOps := lx.ops_of_laid hL
  have hval : ∀ (j : Nat) t v, Tryz.f8.params[j]? = some t → args[j]? = some v → Value.okWide Tryz.prog W .any base t v := hval0
  have hW' := hW
  obtain ⟨p, q, hA0, hV, rfl, _, _⟩ := hW
  have hA : DataW.TrodAll enc Tryz.prog W 0 (fun _ => true) true Tryz.f8.params.toList args.toList ds p := hA0
  rw [Tryz.params8] at hA hval
  obtain ⟨v0, v1, d0, d1, p0, p1, rfl, rfl, rfl, h0, h1⟩ := trodAll_two hA
  obtain ⟨rfl, rfl⟩ := trodVars_none hV
  obtain ⟨a, rfl, rfl, rfl, wa⟩ := open_int Tryz.underlying5 (hval 0 5 v0 rfl rfl) h0
  have ha := law.u8_wf wa
  obtain ⟨b, rfl, rfl, rfl, wb⟩ := open_int Tryz.underlying5 (hval 1 5 v1 rfl rfl) h1
  have hb := law.u8_wf wb
  clear hL
  refine (walk a b ha.1 ha.2 hb.1 hb.2 W hOps).mono fun e W' ⟨he, hb⟩ => ⟨_, he, ?_⟩
  exact law.law_post rfl hW' rfl (by kernel_rfl) (by kernel_rfl) hb

/-- ItemsPairs, for every input. -/
theorem holds : Rows.ItemsPairsSaid :=
  OpenClaim.holds_of_wide 8 Tryz.f8 rfl rfl rfl rfl rfl rfl rfl ⟨rfl, rfl, rfl, rfl, rfl⟩ rfl rfl rfl rfl rfl (by kernel_rfl) Tryz.func8 (by kernel_rfl)
    (of_decide_eq_true (by kernel_rfl)) (by unfold Func.isWrapper; first | (rw [if_pos (by decide +kernel)]; kernel_rfl) | (rw [if_neg (by decide +kernel)]; exact ⟨rfl, rfl⟩))
    (fun os started H enc _ => lifted os started H enc)

/-- The tied card of ItemsPairs. -/
theorem card : Rows.ItemsPairsCardSaid :=
  Claim7.holds_tied_plain_at .later [] [.data, .data, .pinned] true Rows.itemsPairsCard.stood.harness false
    holds (fun _ h => by cases h) (by kernel_rfl) (fun _ h => by cases h) itemsPairs_row_tie rfl ⟨rfl, rfl⟩ (by kernel_rfl) rfl
    (fun f fn hf hfn => by
      obtain rfl : f = 8 := Option.some.inj ((show Tryz.prog.funcNamed "subeditor/subeditorlaw05.ItemsPairs" = some 8 by kernel_rfl).symm.trans hf) |>.symm
      obtain rfl : fn = Tryz.f8 := (Option.some.inj (Tryz.func8.symm.trans hfn)).symm
      exact ⟨by kernel_rfl, fun j t ht => by
        rw [Tryz.params8] at ht
        have hm := List.mem_toArray.1 (Array.mem_of_getElem? ht)
        have hall : (Tryz.f8.params.toList.all fun u => !Tryz.prog.wantsStandIn u) = true := by kernel_rfl
        rw [show Tryz.f8.params.toList = _ from congrArg Array.toList Tryz.params8] at hall
        exact (show Tryz.prog.wantsStandIn t = false by simpa using List.all_eq_true.1 hall t hm)⟩)
    (by kernel_rfl)
end Go.Proofs.YtmoamfcaokefiaaGreatDoor.itemsPairs
