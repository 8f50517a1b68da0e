/-
  The document's layer 6: rows, Level, Side, Left, Right, Of, Opers: their contracts.
-/
import Derived.Test.YtimhhdikdinhjaaDoorPrFns
import Derived.Test.YtimhhdikdinhjaaDoorPrOpers
namespace Go.Proofs.YtimhhdikdinhjaaDoor.pr
open Go.RowKit Go.Shelf sx
set_option linter.unusedVariables false

def rowT (m : Nat) : List ByteArray := (names opsP).drop (strt m) |>.take (cnt m)
theorem rowT_all : ∀ m, m < 9 → ∀ k, k < cnt m → (rowT m)[k]? = some (txt (strt m + k)) := by decide +kernel
theorem rowT_at {m k : Nat} (hm : m < 9) (hk : k < cnt m) : (rowT m)[k]? = some (txt (strt m + k)) := rowT_all m hm k hk
theorem rowT_len : ∀ m, m < 9 → (rowT m).length = cnt m := by decide +kernel
theorem rowT_next : ∀ m, m < 9 → names (opsP.take (strt m)) ++ rowT m = names (opsP.take (strt (m + 1))) := by decide +kernel
def rowV (N m : Nat) : Value := .slice (some ⟨N + m, 0, none⟩) (cnt m) (cnt m)
/-- The rows lie in the blocks from N on; block N + 9 holds the row of rows. -/
structure RowsAt (W : World) (N : Nat) : Prop where
  lt : N + 9 < W.heap.size
  top : Blk W (N + 9) 25 ((List.range 9).map (rowV N)).toArray
  row : ∀ m, m < 9 → Blk W (N + m) 9 (strs (rowT m)).toArray
theorem RowsAt.cell1 {W : World} {N m : Nat} (h : RowsAt W N) (hm : m < 9) : W.cell? ⟨N + 9, m, none⟩ = some (.slice (some ⟨N + m, 0, none⟩) (cnt m) (cnt m)) := by
  rw [h.top.cell m]
  simp [hm, rowV]
theorem RowsAt.cell2 {W : World} {N m k : Nat} (h : RowsAt W N) (hm : m < 9) (hk : k < cnt m) : W.cell? ⟨N + m, k, none⟩ = some (.string (txt (strt m + k))) := by
  rw [(h.row m hm).cell k]
  have h1 := rowT_at hm hk
  simp only [strs, List.getElem?_toArray, List.getElem?_map, h1, Option.map_some]
theorem RowsAt.owns {W : World} {N m : Nat} (h : RowsAt W N) (hm : m < 9) : W.ownsRow N 9 1 (.slice (some ⟨N + m, 0, none⟩) (cnt m) (cnt m)) (cnt m) (strs (rowT m)) := by
  have hl := rowT_len m hm
  have hc := cnt_le m hm
  refine ⟨by simp [strs, hl], .inr ⟨N + m, cnt m, _, rfl, by omega, h.row m hm, Nat.le_refl _, by unfold maxLen; omega, by simp [strs, hl], ?_⟩⟩
  rw [List.take_of_length_le (by simp [strs, hl])]
theorem RowsAt.own {W W' : World} {N : Nat} (h : RowsAt W N) (hb : Below W.heap.size W W') : RowsAt W' N :=
  ⟨Nat.lt_of_lt_of_le h.lt hb.size, h.top.own hb, fun m hm => (h.row m hm).own hb⟩

def allocs (w : World) (os : List Obj) : World := os.foldl World.alloc w
theorem allocs_at (w : World) (os : List Obj) : Below w.heap.size w (allocs w os) ∧ (allocs w os).heap.size = w.heap.size + os.length ∧ ∀ i, i < os.length → (allocs w os).heap[w.heap.size + i]? = os[i]? := by
  induction os generalizing w with
  | nil => exact ⟨Below.refl _ _, rfl, fun i hi => absurd hi (by simp)⟩
  | cons o r ih =>
    obtain ⟨h1, h2, h3⟩ := ih (w.alloc o)
    have hs : (w.alloc o).heap.size = w.heap.size + 1 := by simp
    have hn : Below w.heap.size w (w.alloc o) := (Below.refl _ w).alloc (Nat.le_refl _) _
    refine ⟨hn.trans (h1.mono (by omega)), by show (allocs (w.alloc o) r).heap.size = _; rw [h2, hs]; simp; omega, fun i hi => ?_⟩
    show (allocs (w.alloc o) r).heap[_]? = _
    cases i with
    | zero => rw [h1.block _ (by omega)]; simpa using World.alloc_heap_new w o
    | succ i =>
      have := h3 i (by simpa using hi)
      rw [hs, Nat.add_right_comm, Nat.add_assoc] at this
      simpa using this
def rowsO (N : Nat) : List Obj := ((List.range 9).map fun m => Obj.cells (strs (rowT m)).toArray 9) ++ [.cells ((List.range 9).map (rowV N)).toArray 25]
theorem rows_new (w : World) : RowsAt (allocs w (rowsO w.heap.size)) w.heap.size := by
  obtain ⟨_, h2, h3⟩ := allocs_at w (rowsO w.heap.size)
  have hl : (rowsO w.heap.size).length = 10 := rfl
  refine ⟨by omega, (h3 9 (by omega)).trans rfl, fun m hm => (h3 m (by omega)).trans ?_⟩
  unfold rowsO
  rw [List.getElem?_append_left (by simp; omega)]
  simp [hm]

set_option maxRecDepth 100000 in
set_option maxHeartbeats 4000000 in
theorem rows_calls (w : World) :
    Calls Tryd.prog 19 #[] w fun e w' => e = .returned (.slice (some ⟨w.heap.size + 9, 0, none⟩) 9 9) ∧ RowsAt w' w.heap.size ∧ Below w.heap.size w w' := by
  go_enter Tryd.func19, Tryd.ntmps19
  go_wp2_with fail
  go_ret
  refine ⟨rfl, ?_⟩
  have h1 := rows_new w
  have h2 := (allocs_at w (rowsO w.heap.size)).1
  exact ⟨h1, h2⟩
theorem eq_list (a b : ByteArray) : (a.toList == b.toList) = decide (a = b) := by
  by_cases h : a = b
  · subst h; simp
  · rw [decide_eq_false h, beq_eq_false_iff_ne, Lib.toList_data, Lib.toList_data]
    intro e; exact h (ByteArray.ext (Array.ext' e))
theorem level_yes {m k : Nat} {s : ByteArray} (hm : m < 9) (hk : k < cnt m) (h : txt (strt m + k) = s) : levelOf s = (m : Int) + 1 := by
  have h1 := grade_of (List.mem_of_getElem? (ops_at hm hk))
  simp only [h] at h1
  unfold levelOf
  rw [h1]; rfl
theorem txt_all : ∀ j, j < 24 → (opsP[j]?).map (·.1) = some (txt j) := ops_txt
theorem level_no {s : ByteArray} (h : ∀ j, j < 24 → txt j ≠ s) : levelOf s = 0 := by
  unfold levelOf
  cases hg : gradeOf s with
  | none => rfl
  | some p =>
    exfalso
    obtain ⟨j, hj, e⟩ := List.mem_iff_getElem.1 (grade_mem hg)
    have h1 := txt_all j (by rw [← ops_len]; exact hj)
    rw [List.getElem?_eq_getElem hj, e] at h1
    simp only [Option.map_some, Option.some.injEq] at h1
    exact h j (by rw [← ops_len]; exact hj) h1.symm

set_option maxRecDepth 100000 in
set_option maxHeartbeats 4000000 in
theorem rlevel_calls (s : ByteArray) (w : World) :
    Calls Tryd.prog 20 #[.string s] w fun e w' => e = .returned (.int .i64 (levelOf s)) ∧ Below w.heap.size w w' := by
  have HR := Lib.hid (rows_calls w)
  go_enter Tryd.func20, Tryd.ntmps20
  go_wp2_with fail
  ((with_reducible refine HR.out.mono ?_); rintro e w1 ⟨rfl, hR, hb1⟩)
  obtain ⟨N, hN⟩ : ∃ N, w.heap.size = N := ⟨_, rfl⟩
  have HB := Lib.hid hb1
  have HW := Lib.hid hR
  rw [hN] at HW
  rw [hN]
  clear hb1 hR hN HR
  go_wp2_with fail
  go_loopw [4] (fun i wr => ∃ m : Nat, m ≤ 9 ∧ i = .int .i64 (m : Int) ∧ (∀ j, j < strt m → txt j ≠ s) ∧ wr = w1) (fun i _ => 9 - (intOf i).toNat)
  case atStart => exact ⟨0, Nat.zero_le _, rfl, fun j hj => absurd hj (by simp [strt]), rfl⟩
  case round =>
    obtain ⟨m, hm, rfl, hno, rfl⟩ := hrel
    by_cases hlt : m < 9
    · have hlt1 : (m : Int) < 9 := by omega
      have c1 := HW.out.cell1 hlt
      have hcc := cnt_le m hlt
      obtain ⟨c, hc⟩ : ∃ c, cnt m = c := ⟨_, rfl⟩
      rw [hc] at c1 hcc
      have HC := Lib.hid hc; have HL := Lib.hid hlt; have HNO := Lib.hid hno
      clear hc hlt hno hm
      go_wp2_with fail
      go_loopw [5] (fun i wx => ∃ k : Nat, k ≤ c ∧ i = .int .i64 (k : Int) ∧ (∀ j, j < strt m + k → txt j ≠ s) ∧ wx = wr) (fun i _ => c - (intOf i).toNat)
      case atStart => exact ⟨0, Nat.zero_le _, rfl, HNO.out, rfl⟩
      case round =>
        obtain ⟨k, hk, rfl, hno, rfl⟩ := hrel
        by_cases hlt : k < c
        · have hlt2 : (k : Int) < (c : Int) := by omega
          have c2 := HW.out.cell2 HL.out (k := k) (by rw [HC.out]; exact hlt)
          have hy := fun h => level_yes (s := s) HL.out (k := k) (by rw [HC.out]; exact hlt) h
          have hq := eq_list (txt (strt m + k)) s
          obtain ⟨t, ht⟩ : ∃ t, txt (strt m + k) = t := ⟨_, rfl⟩
          rw [ht] at c2 hy hq
          have HNK := Lib.hid hno; have HT := Lib.hid ht; have HLK := Lib.hid hlt
          clear hno ht hlt
          by_cases he : t = s
          · rw [decide_eq_true he] at hq
            have HY := Lib.hid (hy he)
            clear hy he
            have hw1 : wrap64 ((m : Int) + 1) = (m : Int) + 1 := by rw [IntWalk.wrap64_in]; omega
            go_wp2_with fail
            go_ret
            exact ⟨by rw [HY.out]; rfl, HB.out⟩
          · rw [decide_eq_false he] at hq
            have HE := Lib.hid he
            clear hy he
            go_wp2_with fail
            go_roundw
            case rel =>
              have := HLK.out
              refine ⟨k + 1, by omega, by go_num, fun j hj => ?_, trivial⟩
              by_cases hjk : j = strt m + k
              · subst hjk; rw [HT.out]; exact HE.out
              · exact HNK.out j (by omega)
            case measure => have := HLK.out; simp [intOf]; omega
        · obtain rfl : k = c := by omega
          have hge : decide ((k : Int) < (k : Int)) = false := by simp
          have HNK := Lib.hid hno
          clear hno
          go_wp2_with fail
          have hL := HL.out
          refine ⟨⟨m + 1, by omega, by go_num, fun j hj => HNK.out j (by rw [← HC.out]; rw [strt_next m hL]; exact hj), trivial⟩, by simp [intOf]; omega⟩
    · obtain rfl : m = 9 := by omega
      have HY := Lib.hid (level_no (s := s) (fun j hj => hno j (by simpa [strt] using hj)))
      clear hno
      go_wp2_with fail
      go_ret
      exact ⟨by rw [HY.out]; rfl, HB.out⟩
end Go.Proofs.YtimhhdikdinhjaaDoor.pr
