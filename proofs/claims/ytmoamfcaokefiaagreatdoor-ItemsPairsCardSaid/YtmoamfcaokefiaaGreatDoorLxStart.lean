/-
  lex: outside, inside, start: their contracts.
-/
import Derived.Test.YtmoamfcaokefiaaGreatDoorLxFns3
namespace Go.Proofs.YtmoamfcaokefiaaGreatDoor.lx
open Go.RowKit Go.Shelf
open sg (lst_len extract_drop ext_size)
open sx
set_option linter.unusedVariables false

/-- Blocks that are laid, one behind the other. -/
def lay (w : World) : List (TypeId × Array Value) → World
  | [] => w
  | x :: r => lay (w.alloc (.cells x.2 x.1)) r
def num (B : Nat) : List (TypeId × Array Value) → List (Nat × TypeId × Array Value)
  | [] => []
  | x :: r => (B, x.1, x.2) :: num (B + 1) r
theorem lay_below (w : World) (l : List (TypeId × Array Value)) : Below w.heap.size w (lay w l) ∧ (lay w l).heap.size = w.heap.size + l.length := by
  induction l generalizing w with
  | nil => exact ⟨Below.refl _ _, rfl⟩
  | cons x r ih =>
    obtain ⟨h1, h2⟩ := ih (w.alloc (.cells x.2 x.1))
    rw [World.size_alloc] at h1 h2
    exact ⟨((Below.refl _ w).alloc (Nat.le_refl _) _).trans (h1.mono (by omega)), by simp only [lay, List.length_cons]; omega⟩
theorem lay_lie (w : World) (l : List (TypeId × Array Value)) : Lie (num w.heap.size l) (lay w l) := by
  induction l generalizing w with
  | nil => intro b hb; cases hb
  | cons x r ih =>
    have h := ih (w.alloc (.cells x.2 x.1))
    rw [World.size_alloc] at h
    intro b hb
    rcases List.mem_cons.1 hb with rfl | hb
    · exact (Blk.new w x.1 x.2).own (lay_below (w.alloc (.cells x.2 x.1)) r).1
    · exact h b hb

def outL (B : Nat) : List (TypeId × Array Value) :=
  [(92, #[fnV 99 #[]]), (9, #[.string ⟨#[46]⟩]), (47, #[fnV 103 #[]]), (9, #[.string ⟨#[36]⟩]), (47, #[fnV 101 #[]]),
   (92, #[fnV 104 #[]]), (9, #[.string ⟨#[64]⟩]), (47, #[fnV 112 #[ptr (B + 5)]]), (9, #[.string ⟨#[34]⟩]), (114, outCells B)]
theorem out_num (B : Nat) : num B (outL B) = outBl B := rfl

set_option maxRecDepth 100000 in
set_option maxHeartbeats 4000000 in
theorem outside_calls (w : World) : Calls Tryz.prog 92 #[] w fun e w' => e = .returned (.slice (some ⟨w.heap.size + 9, 0, none⟩) 9 9) ∧ w' = lay w (outL w.heap.size) := by
  go_enter Tryz.func92, Tryz.ntmps92
  go_wp2_with fail
  ((with_reducible refine (row_calls _ _ 99 rfl).mono ?_); rintro e w1 ⟨rfl, rfl⟩)
  go_wp2_with fail
  ((with_reducible refine (marked_calls _ _ _ 103 #[] rfl).mono ?_); rintro e w1 ⟨rfl, rfl⟩)
  go_wp2_with fail
  ((with_reducible refine (marked_calls _ _ _ 101 #[] rfl).mono ?_); rintro e w1 ⟨rfl, rfl⟩)
  go_wp2_with fail
  ((with_reducible refine (row_calls _ _ 104 rfl).mono ?_); rintro e w1 ⟨rfl, rfl⟩)
  go_wp2_with fail
  ((with_reducible refine (marked_calls _ _ _ 112 _ rfl).mono ?_); rintro e w1 ⟨rfl, rfl⟩)
  go_wp2_with fail
  ((with_reducible refine (just_calls _ _).mono ?_); rintro e w1 ⟨rfl, rfl⟩)
  go_wp2_with fail
  go_ret
  exact ⟨by simp, rfl⟩

def inCells (B : Nat) : Array Value := #[.int .i64 8, fnV 108 #[], .int .i64 11, fnV 107 #[ptr B], .int .i64 9, fnV 107 #[ptr (B + 1)]]
def inL (B : Nat) : List (TypeId × Array Value) := [(9, #[.string ⟨#[34]⟩]), (9, #[.string ⟨#[92, 40]⟩]), (114, inCells B)]
theorem in_shapes (B : Nat) : ShapesOn (num B (inL B)) (.slice (some ⟨B + 2, 0, none⟩) 3 3) Lx.inside := by
  refine ⟨B + 2, 3, inCells B, rfl, mem_nth _ 2 _ rfl, fun i k f h => ?_⟩
  match i, h with
  | 0, h => cases h; exact ⟨_, rfl, rfl, szPiece _⟩
  | 1, h => cases h; exact ⟨_, rfl, rfl, szJust _ _ ⟨#[34]⟩ (by decide) (mem_nth _ 0 _ rfl)⟩
  | 2, h => cases h; exact ⟨_, rfl, rfl, szJust _ _ ⟨#[92, 40]⟩ (by decide) (mem_nth _ 1 _ rfl)⟩
  | n + 3, h => simp [Lx.inside] at h
set_option maxRecDepth 100000 in
set_option maxHeartbeats 4000000 in
theorem inside_calls (w : World) : Calls Tryz.prog 94 #[] w fun e w' => e = .returned (.slice (some ⟨w.heap.size + 2, 0, none⟩) 3 3) ∧ w' = lay w (inL w.heap.size) := by
  go_enter Tryz.func94, Tryz.ntmps94
  go_wp2_with fail
  ((with_reducible refine (just_calls _ _).mono ?_); rintro e w1 ⟨rfl, rfl⟩)
  go_wp2_with fail
  ((with_reducible refine (just_calls _ _).mono ?_); rintro e w1 ⟨rfl, rfl⟩)
  go_wp2_with fail
  go_ret
  exact ⟨by simp, rfl⟩

theorem infoShape : (Tryz.prog.info? 114).map (fun i => (i.zero, i.size, i.bytes)) = some (some (.agg #[.int .i64 0, .nilFunc]), 2, 16) := by kernel_rfl

theorem Lie.own {bl : List (Nat × TypeId × Array Value)} {W W' : World} (h : Lie bl W) (hb : Below W.heap.size W W') : Lie bl W' := fun b hm => (h b hm).own hb
theorem Lie.grown {bl : List (Nat × TypeId × Array Value)} {W W' : World} {row : Option Nat} (h : Lie bl W) (hg : W.grownBy W' row) (hr : ∀ b ∈ bl, some b.1 ≠ row) : Lie bl W' := fun b hm => (h b hm).kept hg (hr b hm)
theorem Lie.app {bl bl' : List (Nat × TypeId × Array Value)} {W : World} (h : Lie bl W) (h' : Lie bl' W) : Lie (bl ++ bl') W := fun b hm => (List.mem_append.1 hm).elim (h b) (h' b)

theorem num_le (B : Nat) (l : List (TypeId × Array Value)) : ∀ b ∈ num B l, B ≤ b.1 ∧ b.1 < B + l.length := by
  induction l generalizing B with
  | nil => intro b hb; cases hb
  | cons x r ih =>
    intro b hb
    rcases List.mem_cons.1 hb with rfl | hb
    · exact ⟨Nat.le_refl _, by simp⟩
    · have := ih (B + 1) b hb
      simp only [List.length_cons]; omega
/-- None of the blocks is of a type that is written later. -/
def Fixed (bl : List (Nat × TypeId × Array Value)) : Prop := ∀ b ∈ bl, b.2.1 ≠ 24 ∧ b.2.1 ≠ 107 ∧ b.2.1 ≠ 101
def okT (t : TypeId) : Bool := t != 24 && (t != 107 && t != 101)
theorem okT_of {t : TypeId} (h : okT t = true) : t ≠ 24 ∧ t ≠ 107 ∧ t ≠ 101 := by
  unfold okT at h
  rw [Bool.and_eq_true, Bool.and_eq_true, bne_iff_ne, bne_iff_ne, bne_iff_ne] at h
  exact h
theorem fixed_num (B : Nat) (l : List (TypeId × Array Value)) (h : (l.map (·.1)).all okT = true) : Fixed (num B l) := by
  induction l generalizing B with
  | nil => intro b hb; cases hb
  | cons x r ih =>
    rw [List.map_cons, List.all_cons, Bool.and_eq_true] at h
    intro b hb
    rcases List.mem_cons.1 hb with rfl | hb
    · exact okT_of h.1
    · exact ih (B + 1) h.2 b hb

/-- A lexer's cells. -/
abbrev lexCells (rest : ByteArray) (x : Lx.St) (below vO vC vI : Value) : Array Value := #[.string rest, .bool x.text, .int .i64 x.br, below, vO, vC, vI]

/-- What start hands back. -/
def Started (s : ByteArray) (w : World) (e : Ending) (w' : World) : Prop := ∃ bl Lb vO vC vI, e = .returned (ptr Lb) ∧ Blk w' Lb 107 (lexCells s ⟨false, 0⟩ (.slice none 0 0) vO vC vI) ∧ w.heap.size ≤ Lb ∧
  ShapesOn bl vO Lx.outside ∧ ShapesOn bl vC Lx.closing ∧ ShapesOn bl vI Lx.inside ∧ Lie bl w' ∧ (∀ b ∈ bl, w.heap.size ≤ b.1) ∧ Fixed bl ∧ Below w.heap.size w w'

theorem closing_shapes (bl : List (Nat × TypeId × Array Value)) (B D g cap : Nat) (cur : Array Value) (hB : ∀ b ∈ outBl B, b ∈ bl) (hD : (D, 9, #[.string ⟨#[41]⟩]) ∈ bl) (hg : (g, 114, cur) ∈ bl)
    (hc : cur.toList.take 20 = [.int .i64 10, fnV 107 #[ptr D]] ++ (outCells B).toList) : ShapesOn bl (.slice (some ⟨g, 0, none⟩) 10 cap) Lx.closing := by
  have hget : ∀ i u, i < 20 → ([.int .i64 10, fnV 107 #[ptr D]] ++ (outCells B).toList)[i]? = some u → cur[i]? = some u := by
    intro i u hi hu
    rw [← hc, List.getElem?_take_of_lt hi] at hu
    simpa using hu
  refine ⟨g, cap, cur, rfl, hg, fun i k f h => ?_⟩
  match i, h with
  | 0, h => cases h; exact ⟨_, hget 0 _ (by omega) rfl, hget 1 _ (by omega) rfl, szJust _ _ ⟨#[41]⟩ (by decide) hD⟩
  | i + 1, h =>
    have h' : Lx.outside[i]? = some (k, f) := by simpa [Lx.closing] using h
    have hi : i < 9 := (List.getElem?_eq_some_iff.1 h').1
    obtain ⟨g', cap', cur', e1, e2, e3⟩ := out_shapes B
    obtain ⟨u, a, b, c⟩ := e3 i k f h'
    have ec : cur' = outCells B := by
      have : g' = B + 9 := by have := congrArg Value.ownBlock e1; simp [Value.ownBlock] at this; omega
      subst this
      simp [outBl] at e2
      exact e2
    subst ec
    refine ⟨u, ?_, ?_, c.mono hB⟩
    · refine hget _ _ (by omega) ?_
      rw [show 2 * (i + 1) = 2 * i + 2 by omega]
      simpa using a
    · refine hget _ _ (by omega) ?_
      rw [show 2 * (i + 1) + 1 = (2 * i + 1) + 2 by omega]
      simpa using b

theorem own_some {W : World} {base : Nat} {e : TypeId} {size n : Nat} {v : Value} {xs : List Value} (hn : n ≠ 0) (h : W.ownsRow base e size v n xs) :
    ∃ g cap cur, v = .slice (some ⟨g, 0, none⟩) n cap ∧ base ≤ g ∧ Blk W g e cur ∧ cur.toList.take (n * size) = xs := by
  rcases h.2 with ⟨_, h0⟩ | ⟨g, cap, cur, rfl, hg, hgb, _, _, _, hcur⟩
  · exact absurd h0 hn
  · exact ⟨g, cap, cur, rfl, hg, hgb, hcur⟩

set_option maxRecDepth 100000 in
set_option maxHeartbeats 4000000 in
theorem start_calls (s : ByteArray) (w : World) : Calls Tryz.prog 83 #[.string s] w (Started s w) := by
  obtain ⟨hb1, hs1⟩ := lay_below w (outL w.heap.size)
  have hl1 := lay_lie w (outL w.heap.size)
  rw [out_num] at hl1
  have ho := outside_calls w
  obtain ⟨W1, hW1⟩ : ∃ W1, lay w (outL w.heap.size) = W1 := ⟨_, rfl⟩
  rw [hW1] at hb1 hs1 hl1 ho
  rw [show (outL w.heap.size).length = 10 from rfl] at hs1
  clear hW1
  have HS := Lib.hid hs1
  have HL := Lib.hid hl1
  have HB := Lib.hid hb1
  obtain ⟨i0, hi, hz0, hz1, hz2⟩ := info_parts infoShape
  have hnews : ∀ (j : Nat) u, (outCells w.heap.size).toList[j]? = some u → ((W1.alloc (.cells #[.string ⟨#[41]⟩] 9)).alloc (.cells #[.int .i64 10, fnV 107 #[ptr W1.heap.size]] 114)).cell? ((⟨w.heap.size + 9, 0, none⟩ : Addr).add j) = some u := by
    intro j u hu
    have hbk := ((hl1 _ (mem_nth _ 9 _ rfl)).alloc (.cells #[.string ⟨#[41]⟩] 9)).alloc (.cells #[.int .i64 10, fnV 107 #[ptr W1.heap.size]] 114)
    have := hbk.cell j
    rw [show (⟨w.heap.size + 9, 0, none⟩ : Addr).add j = ⟨w.heap.size + 9, j, none⟩ from by cases j <;> simp [Addr.add]]
    rw [this]
    simpa using hu
  have HN := Lib.hid hnews
  have hdst : ((W1.alloc (.cells #[.string ⟨#[41]⟩] 9)).alloc (.cells #[.int .i64 10, fnV 107 #[ptr W1.heap.size]] 114)).ownsRow w.heap.size 114 2 (.slice (some ⟨W1.heap.size + 1, 0, none⟩) 1 1) 1 [.int .i64 10, fnV 107 #[ptr W1.heap.size]] := by
    refine ⟨rfl, .inr ⟨W1.heap.size + 1, 1, #[.int .i64 10, fnV 107 #[ptr W1.heap.size]], rfl, by omega, ?_, Nat.le_refl _, by unfold maxLen; omega, rfl, rfl⟩⟩
    have := Blk.new (W1.alloc (.cells #[.string ⟨#[41]⟩] 9)) 114 #[.int .i64 10, fnV 107 #[ptr W1.heap.size]]
    rw [World.size_alloc] at this
    exact this
  have HD := Lib.hid hdst
  clear hs1 hl1 hb1 hnews hdst
  go_enter Tryz.func83, Tryz.ntmps83
  go_wp2_with fail
  ((with_reducible refine ho.mono ?_); rintro e w1 ⟨rfl, rfl⟩)
  go_wp2_with fail
  ((with_reducible refine (just_calls _ _).mono ?_); rintro e w2 ⟨rfl, rfl⟩)
  go_wp2_with (at_builtin; refine wpList_append_own _ rfl _ _ 105 rfl w.heap.size 114 i0 (.agg #[.int .i64 0, .nilFunc]) 2 16 Tryz.underlying105 hi hz0 hz1 hz2 rfl (by decide) _ _ _ rfl HD.out ⟨w.heap.size + 9, 0, none⟩ 9 9 (outCells w.heap.size).toList rfl rfl HN.out (by simp [outCells, Value.oneCell']) (by unfold maxLen; omega) (by omega) (by have := HB.out.size; simp; omega) ?_; intro v' w3 hown' hgrow _; obtain ⟨g, cap, cur, rfl, hg, hgb, hcur⟩ := own_some (by decide) hown')
  ((with_reducible refine (inside_calls _).mono ?_); rintro e w4 ⟨rfl, rfl⟩)
  go_wp2_with fail
  go_ret
  replace hgrow : World.grownBy _ w3 (some (w1.heap.size + 1)) := hgrow
  have hl1 := HL.out
  have hs1 := HS.out
  have hb1 := HB.out
  have hbx := Blk.new w1 9 #[.string ⟨#[41]⟩]
  obtain ⟨hi1, hi2⟩ := lay_below w3 (inL w3.heap.size)
  have hi3 := lay_lie w3 (inL w3.heap.size)
  have hg3 := hgrow.size
  rw [World.size_alloc, World.size_alloc] at hg3
  have hlo3 : Lie (outBl w.heap.size) w3 := Lie.grown ((hl1.own ((Below.refl _ _).alloc (Nat.le_refl _) _)).own ((Below.refl _ _).alloc (Nat.le_refl _) _)) hgrow (fun b hb e => by
    rw [← out_num] at hb
    have := num_le _ _ b hb
    rw [show (outL w.heap.size).length = 10 from rfl] at this
    simp at e
    omega)
  have hbx3 : Blk w3 w1.heap.size 9 #[.string ⟨#[41]⟩] := (hbx.alloc _).kept hgrow (by simp)
  have hall : Lie (outBl w.heap.size ++ ((w1.heap.size, 9, #[.string ⟨#[41]⟩]) :: (g, 114, cur) :: num w3.heap.size (inL w3.heap.size))) (lay w3 (inL w3.heap.size)) := by
    refine Lie.app (hlo3.own hi1) ?_
    intro b hb
    rcases List.mem_cons.1 hb with rfl | hb
    · exact hbx3.own hi1
    · rcases List.mem_cons.1 hb with rfl | hb
      · exact Blk.own hgb hi1
      · exact hi3 b hb
  have hmem : ∀ b, b = (w1.heap.size, 9, #[.string ⟨#[41]⟩]) ∨ b = (g, 114, cur) ∨ b ∈ num w3.heap.size (inL w3.heap.size) → b ∈ (outBl w.heap.size ++ ((w1.heap.size, 9, #[.string ⟨#[41]⟩]) :: (g, 114, cur) :: num w3.heap.size (inL w3.heap.size))) := by
    intro b hb
    refine List.mem_append_right _ ?_
    rcases hb with rfl | rfl | hb
    · exact List.mem_cons_self ..
    · exact List.mem_cons_of_mem _ (List.mem_cons_self ..)
    · exact List.mem_cons_of_mem _ (List.mem_cons_of_mem _ hb)
  refine ⟨_, _, _, _, _, rfl, Blk.new _ _ _, ?_, (out_shapes w.heap.size).mono (fun b hb => List.mem_append_left _ hb), closing_shapes _ w.heap.size w1.heap.size g cap cur (fun b hb => List.mem_append_left _ hb) (hmem _ (.inl rfl)) (hmem _ (.inr (.inl rfl))) hcur, (in_shapes w3.heap.size).mono (fun b hb => hmem b (.inr (.inr hb))), hall.own ((Below.refl _ _).alloc (Nat.le_refl _) _), ?_, ?_, ?_⟩
  · have := hi1.size; omega
  · intro b hb
    rcases List.mem_append.1 hb with hb | hb
    · rw [← out_num] at hb; exact (num_le _ _ b hb).1
    · rcases List.mem_cons.1 hb with rfl | hb
      · omega
      · rcases List.mem_cons.1 hb with rfl | hb
        · exact hg
        · have := (num_le _ _ b hb).1; omega
  · intro b hb
    rcases List.mem_append.1 hb with hb | hb
    · rw [← out_num] at hb; exact fixed_num _ _ rfl b hb
    · rcases List.mem_cons.1 hb with rfl | hb
      · exact okT_of (t := 9) rfl
      · rcases List.mem_cons.1 hb with rfl | hb
        · exact okT_of (t := 114) rfl
        · exact fixed_num _ _ rfl b hb
  · refine Below.alloc ?_ (by have := hi1.size; omega) _
    refine (Below.grown ((hb1.alloc (by omega) _).alloc (by simp; omega) _) hgrow (by simp; omega) (fun k e => by simp at e; omega)).trans (hi1.mono (by omega))
end Go.Proofs.YtmoamfcaokefiaaGreatDoor.lx
