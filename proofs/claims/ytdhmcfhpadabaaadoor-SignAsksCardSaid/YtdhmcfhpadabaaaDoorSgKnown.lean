/-
  subeditorlaw03: known, Front: their contracts.
-/
import Derived.Test.YtdhmcfhpadabaaaDoorSgLaw
import Derived.Test.YtdhmcfhpadabaaaDoorSgMath2
namespace Go.Proofs.YtdhmcfhpadabaaaDoor.sg
open Go.RowKit Go.Shelf
set_option linter.unusedVariables false

theorem known1 (w : World) : Calls Tryd.prog 19 #[.string ⟨#[49, 46, 53, 101, 43, 120]⟩] w fun e W' => e = .returned (.int .i64 3) ∧ Below w.heap.size w W' := by
  have h := number_calls ⟨#[49, 46, 53, 101, 43, 120]⟩ (by decide) w
  rw [show Sg.number (⟨#[49, 46, 53, 101, 43, 120]⟩ : ByteArray).data.toList = 3 from by decide +kernel] at h
  exact h
theorem known2 (w : World) : Calls Tryd.prog 20 #[.string ⟨#[97, 58, 58, 98, 58, 58]⟩] w fun e W' => e = .returned (.int .i64 4) ∧ w = W' := by
  have h := word_calls ⟨#[97, 58, 58, 98, 58, 58]⟩ (by decide) w
  rw [show Sg.word (⟨#[97, 58, 58, 98, 58, 58]⟩ : ByteArray).data.toList = 4 from by decide +kernel] at h
  exact h
theorem known3 (w : World) (hw : OpsAt w) : Calls Tryd.prog 22 #[.string ⟨#[47, 47, 61]⟩] w fun e W' => e = .returned (.int .i64 3) ∧ Below w.heap.size w W' := by
  have h := oper_calls ⟨#[47, 47, 61]⟩ w hw
  rw [show Sg.oper (⟨#[47, 47, 61]⟩ : ByteArray).data.toList = 3 from by decide +kernel] at h
  exact h
theorem known4 (w : World) : Calls Tryd.prog 21 #[.string ⟨#[92, 117, 48, 48, 101, 57, 120]⟩] w fun e W' => e = .returned (.int .i64 6) ∧ Below w.heap.size w W' := by
  have h := escape_calls ⟨#[92, 117, 48, 48, 101, 57, 120]⟩ (by decide) w
  rw [show Sg.escape (⟨#[92, 117, 48, 48, 101, 57, 120]⟩ : ByteArray).data.toList = 6 from by decide +kernel] at h
  exact h
theorem known5 (w : World) : Calls Tryd.prog 24 #[.string ⟨#[100, 101, 102]⟩] w fun e W' => e = .returned (.bool true) ∧ Below w.heap.size w W' := by
  have h := key_calls ⟨#[100, 101, 102]⟩ (by decide) w
  rw [show Sg.key (⟨#[100, 101, 102]⟩ : ByteArray).data.toList = true from by decide +kernel] at h
  exact h
theorem known6 (w : World) : Calls Tryd.prog 23 #[.string ⟨#[100, 101, 102]⟩] w fun e W' => e = .returned (.bool false) ∧ Below w.heap.size w W' := by
  have h := plain_calls ⟨#[100, 101, 102]⟩ (by decide) w
  rw [show Sg.plain (⟨#[100, 101, 102]⟩ : ByteArray).data.toList = false from by decide +kernel] at h
  exact h
theorem known7 (w : World) : Calls Tryd.prog 23 #[.string ⟨#[97, 49]⟩] w fun e W' => e = .returned (.bool true) ∧ Below w.heap.size w W' := by
  have h := plain_calls ⟨#[97, 49]⟩ (by decide) w
  rw [show Sg.plain (⟨#[97, 49]⟩ : ByteArray).data.toList = true from by decide +kernel] at h
  exact h

set_option maxRecDepth 100000 in
set_option maxHeartbeats 2000000 in
theorem known_calls (w : World) (hw : OpsAt w) : Calls Tryd.prog 10 #[] w fun e W' => e = .returned (.bool true) ∧ Below w.heap.size w W' := by
  have HW := Lib.hid hw
  clear hw
  go_enter Tryd.func10, Tryd.ntmps10
  go_wp2_with fail
  ((with_reducible refine (known1 _).mono ?_); rintro e w1 ⟨rfl, hb1⟩)
  go_wp2_with fail
  ((with_reducible refine (known2 _).mono ?_); rintro e w2 ⟨rfl, rfl⟩)
  go_wp2_with fail
  ((with_reducible refine (known3 _ (HW.out.own hb1)).mono ?_); rintro e w3 ⟨rfl, hb3⟩)
  go_wp2_with fail
  ((with_reducible refine (known4 _).mono ?_); rintro e w4 ⟨rfl, hb4⟩)
  go_wp2_with fail
  ((with_reducible refine (known5 _).mono ?_); rintro e w5 ⟨rfl, hb5⟩)
  go_wp2_with fail
  ((with_reducible refine (known6 _).mono ?_); rintro e w6 ⟨rfl, hb6⟩)
  go_wp2_with fail
  ((with_reducible refine (known7 _).mono ?_); rintro e w7 ⟨rfl, hb7⟩)
  go_wp2_with fail
  go_ret
  exact ⟨rfl, Below.next (Below.next (Below.next (Below.next (Below.next hb1 hb3 (Nat.le_refl _)) hb4 (Nat.le_refl _)) hb5 (Nat.le_refl _)) hb6 (Nat.le_refl _)) hb7 (Nat.le_refl _)⟩

/-! Front. -/
def pieces : List (List UInt8) := [[97], [95], [90], [57], [48], [46], [58, 58], [58], [101], [69], [43], [45], [92], [117], [47], [63], [61], [124], [60], [34], [110], [100, 101, 102], [195, 169], [120], [42], [37], [33], [36], [64], [41]]
def pieceCells : Array Value := #[.string ⟨#[97]⟩, .string ⟨#[95]⟩, .string ⟨#[90]⟩, .string ⟨#[57]⟩, .string ⟨#[48]⟩, .string ⟨#[46]⟩, .string ⟨#[58, 58]⟩, .string ⟨#[58]⟩, .string ⟨#[101]⟩, .string ⟨#[69]⟩, .string ⟨#[43]⟩, .string ⟨#[45]⟩, .string ⟨#[92]⟩, .string ⟨#[117]⟩, .string ⟨#[47]⟩, .string ⟨#[63]⟩, .string ⟨#[61]⟩, .string ⟨#[124]⟩, .string ⟨#[60]⟩, .string ⟨#[34]⟩, .string ⟨#[110]⟩, .string ⟨#[100, 101, 102]⟩, .string ⟨#[195, 169]⟩, .string ⟨#[120]⟩, .string ⟨#[42]⟩, .string ⟨#[37]⟩, .string ⟨#[33]⟩, .string ⟨#[36]⟩, .string ⟨#[64]⟩, .string ⟨#[41]⟩]
def pieceB (k : Nat) : ByteArray := ⟨(pieces.getD k []).toArray⟩
theorem piece_all : ∀ k : Fin 30, pieceCells[k.1]? = some (.string (pieceB k.1)) := fun ⟨k, hk⟩ => by
  have e : pieceCells = (pieces.map fun l => Value.string ⟨l.toArray⟩).toArray := rfl
  have hl : pieces.length = 30 := rfl
  rw [e]
  simp [pieceB, List.getD, hk, hl]
theorem piece_at (k : Nat) (h : k < 30) : pieceCells[k]? = some (.string (pieceB k)) := piece_all ⟨k, h⟩
theorem piece_len : ∀ l ∈ pieces, l.length ≤ 3 := by decide
theorem piece_size (k : Nat) : (pieceB k).size ≤ 3 := by
  show (pieces.getD k []).toArray.size ≤ 3
  rw [List.size_toArray]
  by_cases h : k < pieces.length
  · rw [List.getD, List.getElem?_eq_getElem h]; exact piece_len _ (List.getElem_mem h)
  · rw [List.getD, List.getElem?_eq_none (by omega)]; decide

def frontAcc (bs : List Int) : ByteArray := bs.foldl (fun acc b => acc ++ pieceB (b % 30).toNat) ⟨#[]⟩
theorem frontAcc_snoc (bs : List Int) (b : Int) : frontAcc (bs ++ [b]) = frontAcc bs ++ pieceB (b % 30).toNat := by simp [frontAcc]
theorem frontAcc_size (bs : List Int) : (frontAcc bs).size ≤ 3 * bs.length := by
  have : ∀ (l : List Int) (acc : ByteArray), (l.foldl (fun acc b => acc ++ pieceB (b % 30).toNat) acc).size ≤ acc.size + 3 * l.length := by
    intro l
    induction l with
    | nil => intro acc; simp
    | cons b r ih =>
      intro acc
      have h1 := ih (acc ++ pieceB (b % 30).toNat)
      have h2 := piece_size (b % 30).toNat
      rw [ByteArray.size_append] at h1
      simp only [List.foldl_cons, List.length_cons]
      omega
  have h := this bs ⟨#[]⟩
  have e : (⟨#[]⟩ : ByteArray).size = 0 := rfl
  rw [e] at h
  unfold frontAcc
  omega
def frontF (bs : List Int) : ByteArray := frontAcc (bs.take 12)
theorem frontF_size (bs : List Int) : (frontF bs).size ≤ 36 := by
  have h := frontAcc_size (bs.take 12)
  have h2 : (bs.take 12).length ≤ 12 := by rw [List.length_take]; omega
  unfold frontF; omega

theorem take_snoc_getD (bs : List Int) (k : Nat) (h : k < bs.length) : bs.take (k + 1) = bs.take k ++ [bs.getD k 0] := by
  rw [List.take_succ_eq_append_getElem h]
  simp [List.getD, h]

theorem cells_new (w : World) (cs : Array Value) (t : TypeId) (k : Nat) : (w.alloc (.cells cs t)).cell? ⟨w.heap.size, k, none⟩ = cs[k]? :=
  cell_of_row _ _ _ _ t (0, 0) (World.alloc_heap_new w _)

set_option maxRecDepth 100000 in
set_option maxHeartbeats 2000000 in
theorem front_calls (v : Value) (bs : List Int) (w : World) (hv : law.BytesAt w v bs) :
    Calls Tryd.prog 11 #[v] w fun e w' => e = .returned (.string (frontF bs)) ∧ Below w.heap.size w w' := by
  rcases hv with ⟨rfl, rfl⟩ | ⟨a, cap, rfl, rfl⟩ | ⟨b, off, cap, rfl, hm, hc⟩
  · go_enter Tryd.func11, Tryd.ntmps11
    go_wp2
    go_loop [4, 5] (fun t i => i = .int .i64 0 ∧ t = .string ⟨#[]⟩) (fun _ _ => 0)
    case atStart => exact ⟨rfl, rfl⟩
    case round =>
      obtain ⟨rfl, rfl⟩ := hrel
      go_wp2
      go_ret
      exact ⟨rfl, (Below.refl _ w).alloc (Nat.le_refl _) _⟩
  · go_enter Tryd.func11, Tryd.ntmps11
    go_wp2
    go_loop [4, 5] (fun t i => i = .int .i64 0 ∧ t = .string ⟨#[]⟩) (fun _ _ => 0)
    case atStart => exact ⟨rfl, rfl⟩
    case round =>
      obtain ⟨rfl, rfl⟩ := hrel
      go_wp2
      go_ret
      exact ⟨rfl, (Below.refl _ w).alloc (Nat.le_refl _) _⟩
  · unfold maxLen at hm
    generalize hn : bs.length = m at hm hc
    have HN := Lib.hid hn
    clear hn
    go_enter Tryd.func11, Tryd.ntmps11
    go_wp2
    go_loop [4, 5] (fun t i => ∃ k : Nat, k ≤ m ∧ k ≤ 12 ∧ i = .int .i64 (k : Int) ∧ t = .string (frontAcc (bs.take k))) (fun _ i => 12 - (intOf i).toNat)
    case atStart => exact ⟨0, Nat.zero_le _, Nat.zero_le _, rfl, rfl⟩
    case round =>
      obtain ⟨k, hk, hk60, rfl, rfl⟩ := hrel
      by_cases h1 : k < m
      · by_cases h2 : k < 12
        · have hb1 := frontAcc_size (bs.take k)
          have hb2 : (bs.take k).length ≤ k := by rw [List.length_take]; omega
          have hsn := frontAcc_snoc (bs.take k) (bs.getD k 0)
          rw [← take_snoc_getD bs k (by rw [HN.out]; exact h1)] at hsn
          obtain ⟨hcell, hx0, hx1⟩ := hc k h1
          have hlt : b < w.heap.size := by
            rcases Nat.lt_or_ge b w.heap.size with h' | h'
            · exact h'
            · simp [World.cell?, Array.getElem?_eq_none h'] at hcell
          generalize bs.getD k 0 = x at hsn hcell hx0 hx1
          have hp := piece_at (x % 30).toNat (by omega)
          have hpc : (w.alloc (.cells pieceCells 9)).cell? ⟨w.heap.size, (x % 30).toNat, none⟩ = some (.string (pieceB (x % 30).toNat)) := by
            rw [← hp]; exact cells_new w _ _ _
          have hq0 : 0 ≤ x % 30 := by omega
          have hq1 : x % 30 < 30 := by omega
          have HSN := Lib.hid hsn
          have hps := piece_size (x % 30).toNat
          clear hsn hp hc
          unfold pieceCells at hpc
          have hsum : (frontAcc (bs.take k)).size + (pieceB (x % 30).toNat).size ≤ maxLen := by unfold maxLen; omega
          go_wp2
          go_round
          case rel => exact ⟨k + 1, by omega, by omega, by go_num, by rw [HSN.out]⟩
          case measure => simp [intOf]; omega
        · obtain rfl : k = 12 := by omega
          have hd : decide (((12 : Nat) : Int) < 12) = false := by decide
          clear hc
          go_wp2
          go_ret
          exact ⟨rfl, (Below.refl _ w).alloc (Nat.le_refl _) _⟩
      · obtain rfl : k = m := by omega
        have hfin : frontAcc (bs.take k) = frontF bs := by
          unfold frontF
          rw [List.take_of_length_le (by rw [HN.out]; omega), List.take_of_length_le (by rw [HN.out]; omega)]
        have HF := Lib.hid hfin
        clear hc hfin
        go_wp2
        go_ret
        exact ⟨by rw [← HF.out]; rfl, (Below.refl _ w).alloc (Nat.le_refl _) _⟩
end Go.Proofs.YtdhmcfhpadabaaaDoor.sg
