/-
  lex.size, lex.Join, lex.Right: the contracts.
-/
import Derived.Test.YtmoamfcaokefiaaGreatDoorLxLaw
import Derived.Test.YtmoamfcaokefiaaGreatDoorEdBuild
namespace Go.Proofs.YtmoamfcaokefiaaGreatDoor.lx
open Go.RowKit Go.ChangeShapes Go.WideShapes Go.ChangeAt Go.ChangeMaps
open sg (OpsAt lst_len)
set_option linter.unusedVariables false

/-- A token: its kind and its text. -/
abbrev Tk := Int × ByteArray
/-- A list of tokens in memory, wherever in its block it begins. -/
def TksAt (n : Nat) (W : World) (v : Value) (ts : List Tk) : Prop :=
  ∃ ao cap, v = .slice ao ts.length cap ∧ ts.length ≤ maxLen ∧ ∀ (j : Nat) t, ts[j]? = some t → ∃ g off, ao = some ⟨g, off, none⟩ ∧ g < n ∧ W.cell? ⟨g, off + j * 2, none⟩ = some (.int .i64 t.1) ∧ W.cell? ⟨g, off + j * 2 + 1, none⟩ = some (.string t.2)
theorem TksAt.below {n m : Nat} {W W' : World} {v : Value} {ts : List Tk} (h : TksAt n W v ts) (hb : Below m W W') (hm : n ≤ m) : TksAt n W' v ts := by
  obtain ⟨ao, cap, h1, h2, h3⟩ := h
  refine ⟨ao, cap, h1, h2, fun i e he => ?_⟩
  obtain ⟨g, off, e1, hg, c0, c1⟩ := h3 i e he
  exact ⟨g, off, e1, hg, (hb.cell (p := ⟨g, _, none⟩) (Nat.lt_of_lt_of_le hg hm)).trans c0, (hb.cell (p := ⟨g, _, none⟩) (Nat.lt_of_lt_of_le hg hm)).trans c1⟩
theorem TksAt.mono {n m : Nat} {W : World} {v : Value} {ts : List Tk} (h : TksAt n W v ts) (hm : n ≤ m) : TksAt m W v ts := by
  obtain ⟨ao, cap, h1, h2, h3⟩ := h
  refine ⟨ao, cap, h1, h2, fun i e he => ?_⟩
  obtain ⟨g, off, e1, hg, c⟩ := h3 i e he
  exact ⟨g, off, e1, Nat.lt_of_lt_of_le hg hm, c⟩
abbrev asTk (t : Lx.Tok) : Tk := (t.1, ⟨t.2.toArray⟩)
theorem ToksAt.tks {n : Nat} {W : World} {v : Value} {l : List Lx.Tok} (h : ToksAt W n v l) (hm : l.length ≤ maxLen) : TksAt n W v (l.map asTk) := by
  obtain ⟨ao, cap, h1, h3⟩ := h
  refine ⟨ao, cap, by rw [h1, List.length_map], by rw [List.length_map]; exact hm, fun j t ht => ?_⟩
  rw [List.getElem?_map] at ht
  cases hj : l[j]? with
  | none => rw [hj] at ht; cases ht
  | some u =>
    rw [hj] at ht
    cases ht
    obtain ⟨g, e, hg, c0, c1⟩ := h3 j u hj
    exact ⟨g, 0, e, hg, by rw [Nat.zero_add]; exact c0, by rw [Nat.zero_add]; exact c1⟩

def sizeT (ts : List Tk) : Nat := (ts.map (·.2.size)).sum
theorem sizeT_snoc (ts : List Tk) (t : Tk) : sizeT (ts ++ [t]) = sizeT ts + t.2.size := by simp [sizeT]
theorem take_snoc {α : Type} (l : List α) (k : Nat) (t : α) (h : l[k]? = some t) : l.take (k + 1) = l.take k ++ [t] := by rw [List.take_add_one, h]; rfl
theorem sizeT_take (ts : List Tk) (k : Nat) : sizeT (ts.take k) ≤ sizeT ts := by
  have h := congrArg sizeT (List.take_append_drop k ts)
  simp only [sizeT, List.map_append, List.sum_append] at h ⊢
  omega

set_option maxRecDepth 100000 in
set_option maxHeartbeats 2000000 in
theorem size_calls (v : Value) (ts : List Tk) (w : World) (n : Nat) (h : TksAt n w v ts) (hs : sizeT ts ≤ 140737488355328) :
    Calls Tryz.prog 68 #[v] w fun e w' => e = .returned (.int .i64 (sizeT ts : Int)) ∧ Below w.heap.size w w' := by
  obtain ⟨ao, cap, rfl, hm, hc⟩ := h
  unfold maxLen at hm
  go_enter Tryz.func68, Tryz.ntmps68
  go_wp2
  go_loopw [3, 8] (fun s i wr => ∃ k : Nat, k ≤ ts.length ∧ i = .int .i64 (k : Int) ∧ s = .int .i64 (sizeT (ts.take k) : Int) ∧ Below w.heap.size w wr) (fun _ i _ => ts.length - (intOf i).toNat)
  case atStart => exact ⟨0, Nat.zero_le _, rfl, rfl, Below.refl _ _⟩
  case round =>
    obtain ⟨k, hk, rfl, rfl, hb⟩ := hrel
    by_cases hlt : k < ts.length
    · obtain ⟨t, ht⟩ : ∃ t, ts[k]? = some t := ⟨_, List.getElem?_eq_getElem hlt⟩
      obtain ⟨g, off, rfl, hg, c0, c1⟩ := hc k t ht
      have hgw := World.block_lt_of_cell? w _ c0
      have d0 := (hb.cell (p := ⟨g, off + k * 2, none⟩) hgw).trans c0
      have d1 := (hb.cell (p := ⟨g, off + k * 2 + 1, none⟩) hgw).trans c1
      have hlt1 : (k : Int) < (ts.length : Int) := by omega
      have hsn := sizeT_snoc (ts.take k) t
      rw [← take_snoc ts k t ht] at hsn
      have hle := sizeT_take ts (k + 1)
      have HSN := Lib.hid hsn
      have hw1 : wrap64 ((sizeT (ts.take k) : Int) + (t.2.size : Int)) = ((sizeT (ts.take k) + t.2.size : Nat) : Int) := by rw [IntWalk.wrap64_in]; rfl; omega
      have HB := Lib.hid (hb.alloc hb.size (.cells #[.int .i64 t.1, .string t.2] 24))
      clear hsn hle hb c0 c1
      go_wp2_with fail
      exact ⟨⟨k + 1, by omega, rfl, by rw [hw1, HSN.out], HB.out⟩, by simp [intOf]; omega⟩
    · obtain rfl : k = ts.length := by omega
      have hge : decide ((ts.length : Int) < (ts.length : Int)) = false := by simp
      go_wp2_with fail
      go_ret
      exact ⟨by rw [List.take_length]; rfl, hb⟩

def joinT (ts : List Tk) : List UInt8 := (ts.map (·.2.data.toList)).flatten
theorem joinT_snoc (ts : List Tk) (t : Tk) : joinT (ts ++ [t]) = joinT ts ++ t.2.data.toList := by simp [joinT]
theorem joinT_len (ts : List Tk) : (joinT ts).length = sizeT ts := by
  induction ts with
  | nil => rfl
  | cons t r ih =>
    simp only [joinT, sizeT, List.map_cons, List.flatten_cons, List.length_append, List.sum_cons] at ih ⊢
    rw [ih, lst_len]

set_option maxRecDepth 100000 in
set_option maxHeartbeats 4000000 in
theorem join_calls (v : Value) (ts : List Tk) (w : World) (h : TksAt w.heap.size w v ts) (hs : sizeT ts ≤ 140737488355328) :
    Calls Tryz.prog 50 #[v] w fun e w' => e = .returned (.string ⟨(joinT ts).toArray⟩) ∧ Below w.heap.size w w' := by
  have hsize : ∀ w1 : World, Below w.heap.size w w1 → Calls Tryz.prog 68 #[v] w1 fun e w' => e = .returned (.int .i64 (sizeT ts : Int)) ∧ Below w1.heap.size w1 w' := fun w1 hb => size_calls v ts w1 w.heap.size (h.below hb (Nat.le_refl _)) hs
  obtain ⟨ao, cap, rfl, hm, hc⟩ := h
  unfold maxLen at hm
  have HC := Lib.hid hc
  go_enter Tryz.func50, Tryz.ntmps50
  go_wp2_with fail
  ((with_reducible refine (hsize _ ((Below.refl _ _).alloc (Nat.le_refl _) _)).mono ?_); rintro _ w2 ⟨rfl, hb2⟩)
  go_wp2_with fail
  have hbk : w2.heap[w.heap.size]? = some (.cells #[.pointer none, .slice none 0 0] 60 (0, 0)) := (hb2.block w.heap.size (by simp)).trans (World.alloc_heap_new w _)
  have hB2 : Below w.heap.size w w2 := sg.Below.next ((Below.refl _ _).alloc (Nat.le_refl _) _) hb2 (by simp)
  ((with_reducible refine (Tryz.Builder_Grow_fresh w.heap.size w.heap.size (sizeT ts) w2 (Nat.le_refl _) hbk hB2.size (by omega)).mono ?_); rintro _ w3 ⟨rfl, hg3, hb3⟩)
  have hB3 : Below w.heap.size w w3 := hB2.trans hb3
  have hG3 : ed.BAt w.heap.size w.heap.size (Lib.byteCells (joinT (ts.take 0))) w3 := .inr (Lib.BuilderAtF.of hg3)
  clear hbk hb2 hB2 hg3 hb3
  go_wp2_with fail
  go_loopw [11] (fun i wr => ∃ k : Nat, k ≤ ts.length ∧ i = .int .i64 (k : Int) ∧ ed.BAt w.heap.size w.heap.size (Lib.byteCells (joinT (ts.take k))) wr ∧ Below w.heap.size w wr) (fun i _ => ts.length - (intOf i).toNat)
  case atStart => exact ⟨0, Nat.zero_le _, rfl, hG3, hB3⟩
  case round =>
    obtain ⟨k, hk, rfl, hG, hb⟩ := hrel
    clear hG3 hB3
    by_cases hlt : k < ts.length
    · obtain ⟨t, ht⟩ : ∃ t, ts[k]? = some t := ⟨_, List.getElem?_eq_getElem hlt⟩
      obtain ⟨g, off, rfl, hg, c0, c1⟩ := HC.out k t ht
      have d0 := (hb.cell (p := ⟨g, off + k * 2, none⟩) hg).trans c0
      have d1 := (hb.cell (p := ⟨g, off + k * 2 + 1, none⟩) hg).trans c1
      have hgw : g < wr.heap.size := Nat.lt_of_lt_of_le hg hb.size
      have hlt1 : (k : Int) < (ts.length : Int) := by omega
      have hsn := joinT_snoc (ts.take k) t
      rw [← take_snoc ts k t ht] at hsn
      have hlen := joinT_len (ts.take (k + 1))
      rw [hsn, List.length_append, lst_len] at hlen
      have hle := sizeT_take ts (k + 1)
      have HSN := Lib.hid hsn
      have HB := Lib.hid (hb.alloc hb.size (.cells #[.int .i64 t.1, .string t.2] 24))
      have hwc := ed.writeString_calls w.heap.size w.heap.size _ t.2 _ (hG.alloc (.cells #[.int .i64 t.1, .string t.2] 24)) (by rw [Lib.byteCells_length]; omega) (Nat.le_trans hb.size (by simp))
      clear hsn hle hb c0 c1 hG hlen ht
      go_wp2_with fail
      ((with_reducible refine hwc.mono ?_); rintro _ w4 ⟨rfl, hG4, hb4, _⟩)
      have HB4 := Lib.hid (HB.out.trans hb4)
      clear hb4
      go_wp2_with fail
      exact ⟨⟨k + 1, by omega, rfl, by rw [HSN.out, Lib.byteCells_append, ← Lib.strCells_eq]; exact hG4, HB4.out⟩, by simp [intOf]; omega⟩
    · obtain rfl : k = ts.length := by omega
      have hge : decide ((ts.length : Int) < (ts.length : Int)) = false := by simp
      rw [List.take_length] at hG
      have hst := Tryz.Builder_String_any_f w.heap.size w.heap.size (joinT ts) wr hG hb.size
      clear hG
      go_wp2_with fail
      ((with_reducible refine hst.mono ?_); rintro _ w4 ⟨rfl, _, hb4⟩)
      go_wp2_with fail
      go_ret
      exact ⟨rfl, hb.trans hb4⟩
end Go.Proofs.YtmoamfcaokefiaaGreatDoor.lx
