/-
  subeditorlaw04.Source: the contract.
-/
import Derived.Test.YtmoamfcaokefiaaGreatDoorLxMath2
namespace Go.Proofs.YtmoamfcaokefiaaGreatDoor.lx
open Go.RowKit Go.Shelf
set_option linter.unusedVariables false

def srcP : List (List UInt8) := [[46], [46, 97], [36, 120], [102], [40], [41], [91], [93], [123], [125], [124], [44], [49], [49, 46, 53, 101, 51], [34], [92, 40], [92, 110], [32], [10], [35, 32, 110, 10], [35, 32, 97, 92, 10], [97, 110, 100], [97, 115], [64, 106, 115, 111, 110], [63, 47, 47], [47, 47], [46, 46], [58], [59], [61], [45], [195, 169], [105, 102], [97, 58, 58, 98], [92, 113], [35, 92, 13, 10], [34]]
def srcCells : Array Value := #[.string ⟨#[46]⟩, .string ⟨#[46, 97]⟩, .string ⟨#[36, 120]⟩, .string ⟨#[102]⟩, .string ⟨#[40]⟩, .string ⟨#[41]⟩, .string ⟨#[91]⟩, .string ⟨#[93]⟩, .string ⟨#[123]⟩, .string ⟨#[125]⟩, .string ⟨#[124]⟩, .string ⟨#[44]⟩, .string ⟨#[49]⟩, .string ⟨#[49, 46, 53, 101, 51]⟩, .string ⟨#[34]⟩, .string ⟨#[92, 40]⟩, .string ⟨#[92, 110]⟩, .string ⟨#[32]⟩, .string ⟨#[10]⟩, .string ⟨#[35, 32, 110, 10]⟩, .string ⟨#[35, 32, 97, 92, 10]⟩, .string ⟨#[97, 110, 100]⟩, .string ⟨#[97, 115]⟩, .string ⟨#[64, 106, 115, 111, 110]⟩, .string ⟨#[63, 47, 47]⟩, .string ⟨#[47, 47]⟩, .string ⟨#[46, 46]⟩, .string ⟨#[58]⟩, .string ⟨#[59]⟩, .string ⟨#[61]⟩, .string ⟨#[45]⟩, .string ⟨#[195, 169]⟩, .string ⟨#[105, 102]⟩, .string ⟨#[97, 58, 58, 98]⟩, .string ⟨#[92, 113]⟩, .string ⟨#[35, 92, 13, 10]⟩, .string ⟨#[34]⟩]
def srcB (k : Nat) : ByteArray := ⟨(srcP.getD k []).toArray⟩
theorem src_all : ∀ k : Fin 37, srcCells[k.1]? = some (.string (srcB k.1)) := fun ⟨k, hk⟩ => by
  have e : srcCells = (srcP.map fun l => Value.string ⟨l.toArray⟩).toArray := rfl
  have hl : srcP.length = 37 := rfl
  rw [e]
  simp [srcB, List.getD, hk, hl]
theorem src_at (k : Nat) (h : k < 37) : srcCells[k]? = some (.string (srcB k)) := src_all ⟨k, h⟩
theorem src_len : ∀ l ∈ srcP, l.length ≤ 5 := by decide
theorem src_size (k : Nat) : (srcB k).size ≤ 5 := by
  show (srcP.getD k []).toArray.size ≤ 5
  rw [List.size_toArray]
  by_cases h : k < srcP.length
  · rw [List.getD, List.getElem?_eq_getElem h]; exact src_len _ (List.getElem_mem h)
  · rw [List.getD, List.getElem?_eq_none (by omega)]; decide

def srcAcc (bs : List Int) : ByteArray := bs.foldl (fun acc b => acc ++ srcB (b % 37).toNat) ⟨#[]⟩
theorem srcAcc_snoc (bs : List Int) (b : Int) : srcAcc (bs ++ [b]) = srcAcc bs ++ srcB (b % 37).toNat := by simp [srcAcc]
theorem srcAcc_size (bs : List Int) : (srcAcc bs).size ≤ 5 * bs.length := by
  have : ∀ (l : List Int) (acc : ByteArray), (l.foldl (fun acc b => acc ++ srcB (b % 37).toNat) acc).size ≤ acc.size + 5 * l.length := by
    intro l
    induction l with
    | nil => intro acc; simp
    | cons b r ih =>
      intro acc
      have h1 := ih (acc ++ srcB (b % 37).toNat)
      have h2 := src_size (b % 37).toNat
      rw [ByteArray.size_append] at h1
      simp only [List.foldl_cons, List.length_cons]
      omega
  have h := this bs ⟨#[]⟩
  have e : (⟨#[]⟩ : ByteArray).size = 0 := rfl
  rw [e] at h
  unfold srcAcc
  omega
def srcF (bs : List Int) : ByteArray := srcAcc (bs.take 60)
theorem srcF_size (bs : List Int) : (srcF bs).size ≤ 300 := by
  have h := srcAcc_size (bs.take 60)
  have h2 : (bs.take 60).length ≤ 60 := by rw [List.length_take]; omega
  unfold srcF; omega

theorem take_snoc_getD (bs : List Int) (k : Nat) (h : k < bs.length) : bs.take (k + 1) = bs.take k ++ [bs.getD k 0] := by
  rw [List.take_succ_eq_append_getElem h]
  simp [List.getD, h]

theorem cells_new (w : World) (cs : Array Value) (t : TypeId) (k : Nat) : (w.alloc (.cells cs t)).cell? ⟨w.heap.size, k, none⟩ = cs[k]? :=
  cell_of_row _ _ _ _ t (0, 0) (World.alloc_heap_new w _)

set_option maxRecDepth 100000 in
set_option maxHeartbeats 2000000 in
theorem source_calls (v : Value) (bs : List Int) (w : World) (hv : law.BytesAt w v bs) :
    Calls Tryz.prog 13 #[v] w fun e w' => e = .returned (.string (srcF bs)) ∧ Below w.heap.size w w' := by
  rcases hv with ⟨rfl, rfl⟩ | ⟨a, cap, rfl, rfl⟩ | ⟨b, off, cap, rfl, hm, hc⟩
  · go_enter Tryz.func13, Tryz.ntmps13
    go_wp2
    go_loop [4, 5] (fun t i => i = .int .i64 0 ∧ t = .string ⟨#[]⟩) (fun _ _ => 0)
    case atStart => exact ⟨rfl, rfl⟩
    case round =>
      obtain ⟨rfl, rfl⟩ := hrel
      go_wp2
      go_ret
      exact ⟨rfl, (Below.refl _ w).alloc (Nat.le_refl _) _⟩
  · go_enter Tryz.func13, Tryz.ntmps13
    go_wp2
    go_loop [4, 5] (fun t i => i = .int .i64 0 ∧ t = .string ⟨#[]⟩) (fun _ _ => 0)
    case atStart => exact ⟨rfl, rfl⟩
    case round =>
      obtain ⟨rfl, rfl⟩ := hrel
      go_wp2
      go_ret
      exact ⟨rfl, (Below.refl _ w).alloc (Nat.le_refl _) _⟩
  · unfold maxLen at hm
    generalize hn : bs.length = m at hm hc
    have HN := Lib.hid hn
    clear hn
    go_enter Tryz.func13, Tryz.ntmps13
    go_wp2
    go_loop [4, 5] (fun t i => ∃ k : Nat, k ≤ m ∧ k ≤ 60 ∧ i = .int .i64 (k : Int) ∧ t = .string (srcAcc (bs.take k))) (fun _ i => 60 - (intOf i).toNat)
    case atStart => exact ⟨0, Nat.zero_le _, Nat.zero_le _, rfl, rfl⟩
    case round =>
      obtain ⟨k, hk, hk60, rfl, rfl⟩ := hrel
      by_cases h1 : k < m
      · by_cases h2 : k < 60
        · have hb1 := srcAcc_size (bs.take k)
          have hb2 : (bs.take k).length ≤ k := by rw [List.length_take]; omega
          have hsn := srcAcc_snoc (bs.take k) (bs.getD k 0)
          rw [← take_snoc_getD bs k (by rw [HN.out]; exact h1)] at hsn
          obtain ⟨hcell, hx0, hx1⟩ := hc k h1
          have hlt : b < w.heap.size := by
            rcases Nat.lt_or_ge b w.heap.size with h' | h'
            · exact h'
            · simp [World.cell?, Array.getElem?_eq_none h'] at hcell
          generalize bs.getD k 0 = x at hsn hcell hx0 hx1
          have hp := src_at (x % 37).toNat (by omega)
          have hpc : (w.alloc (.cells srcCells 9)).cell? ⟨w.heap.size, (x % 37).toNat, none⟩ = some (.string (srcB (x % 37).toNat)) := by
            rw [← hp]; exact cells_new w _ _ _
          have hq0 : 0 ≤ x % 37 := by omega
          have hq1 : x % 37 < 37 := by omega
          have HSN := Lib.hid hsn
          have hps := src_size (x % 37).toNat
          clear hsn hp hc
          unfold srcCells at hpc
          have hsum : (srcAcc (bs.take k)).size + (srcB (x % 37).toNat).size ≤ maxLen := by unfold maxLen; omega
          go_wp2
          go_round
          case rel => exact ⟨k + 1, by omega, by omega, by go_num, by rw [HSN.out]⟩
          case measure => simp [intOf]; omega
        · obtain rfl : k = 60 := by omega
          have hd : decide (((60 : Nat) : Int) < 60) = false := by decide
          clear hc
          go_wp2
          go_ret
          exact ⟨rfl, (Below.refl _ w).alloc (Nat.le_refl _) _⟩
      · obtain rfl : k = m := by omega
        have hfin : srcAcc (bs.take k) = srcF bs := by
          unfold srcF
          rw [List.take_of_length_le (by rw [HN.out]; omega), List.take_of_length_le (by rw [HN.out]; omega)]
        have HF := Lib.hid hfin
        clear hc hfin
        go_wp2
        go_ret
        exact ⟨by rw [← HF.out]; rfl, (Below.refl _ w).alloc (Nat.le_refl _) _⟩
end Go.Proofs.YtmoamfcaokefiaaGreatDoor.lx
