/-
  subeditorlaw01.Text and known: their contracts.
-/
import Derived.Test.YtmoamfcaokefiaaGreatDoorLaw
import Derived.Test.YtmoamfcaokefiaaGreatDoorUtfRune
import Derived.Deep.QuietTactic
import Derived.BigQuiet
import Derived.RangeFuncRecord
namespace Go.Proofs.YtmoamfcaokefiaaGreatDoor.utf
open Go.RowKit
set_option linter.unusedVariables false
def Blk (W : World) (B : Nat) (t : TypeId) (vs : Array Value) : Prop := W.heap[B]? = some (.cells vs t (0, 0))
theorem Blk.lt {W : World} {B : Nat} {t : TypeId} {v : Array Value} (h : Blk W B t v) : B < W.heap.size := (Array.getElem?_eq_some_iff.1 h).1
theorem Blk.cell {W : World} {B : Nat} {t : TypeId} {v : Array Value} (h : Blk W B t v) (i : Nat) : W.cell? ⟨B, i, none⟩ = v[i]? := by simp [World.cell?, show W.heap[B]? = _ from h]
theorem Blk.new (W : World) (t : TypeId) (v : Array Value) : Blk (W.alloc (.cells v t)) W.heap.size t v := World.alloc_heap_new W _

def pieces : List (List UInt8) := [[97], [98], [10], [13, 10], [195, 169], [226, 130, 172], [240, 159, 152, 128], [255], [195], [237, 160, 128], [192, 128], [239, 191, 189], [32], [244, 144, 128, 128]]
def pieceB (k : Nat) : ByteArray := ⟨(pieces.getD k []).toArray⟩
def pieceCells : Array Value := #[.string ⟨#[97]⟩, .string ⟨#[98]⟩, .string ⟨#[10]⟩, .string ⟨#[13, 10]⟩, .string ⟨#[195, 169]⟩, .string ⟨#[226, 130, 172]⟩, .string ⟨#[240, 159, 152, 128]⟩, .string ⟨#[255]⟩, .string ⟨#[195]⟩, .string ⟨#[237, 160, 128]⟩, .string ⟨#[192, 128]⟩, .string ⟨#[239, 191, 189]⟩, .string ⟨#[32]⟩, .string ⟨#[244, 144, 128, 128]⟩]
theorem piece_at (k : Nat) (h : k < 14) : pieceCells[k]? = some (.string (pieceB k)) := by
  have : k = 0 ∨ k = 1 ∨ k = 2 ∨ k = 3 ∨ k = 4 ∨ k = 5 ∨ k = 6 ∨ k = 7 ∨ k = 8 ∨ k = 9 ∨ k = 10 ∨ k = 11 ∨ k = 12 ∨ k = 13 := by omega
  rcases this with rfl | rfl | rfl | rfl | rfl | rfl | rfl | rfl | rfl | rfl | rfl | rfl | rfl | rfl <;> rfl
theorem piece_size (k : Nat) : (pieceB k).size ≤ 4 := by
  by_cases h : k < 14
  · have : k = 0 ∨ k = 1 ∨ k = 2 ∨ k = 3 ∨ k = 4 ∨ k = 5 ∨ k = 6 ∨ k = 7 ∨ k = 8 ∨ k = 9 ∨ k = 10 ∨ k = 11 ∨ k = 12 ∨ k = 13 := by omega
    rcases this with rfl | rfl | rfl | rfl | rfl | rfl | rfl | rfl | rfl | rfl | rfl | rfl | rfl | rfl <;> decide
  · have e : pieces.getD k [] = [] := by
      have hl : pieces.length = 14 := rfl
      simp [List.getD, List.getElem?_eq_none (show pieces.length ≤ k by omega)]
    unfold pieceB
    rw [e]
    decide

def textAcc (bs : List Int) : ByteArray := bs.foldl (fun acc b => acc ++ pieceB (b % 14).toNat) ⟨#[]⟩
theorem textAcc_snoc (bs : List Int) (b : Int) : textAcc (bs ++ [b]) = textAcc bs ++ pieceB (b % 14).toNat := by simp [textAcc]
theorem textAcc_size (bs : List Int) : (textAcc bs).size ≤ 4 * bs.length := by
  have : ∀ (l : List Int) (acc : ByteArray), (l.foldl (fun acc b => acc ++ pieceB (b % 14).toNat) acc).size ≤ acc.size + 4 * l.length := by
    intro l
    induction l with
    | nil => intro acc; simp
    | cons b r ih =>
      intro acc
      have h1 := ih (acc ++ pieceB (b % 14).toNat)
      have h2 := piece_size (b % 14).toNat
      rw [ByteArray.size_append] at h1
      simp only [List.foldl_cons, List.length_cons]
      omega
  have h := this bs ⟨#[]⟩
  have e : (⟨#[]⟩ : ByteArray).size = 0 := rfl
  rw [e] at h
  unfold textAcc
  omega
def textF (bs : List Int) : ByteArray := textAcc (bs.take 60)
theorem textF_size (bs : List Int) : (textF bs).size ≤ 240 := by
  have h := textAcc_size (bs.take 60)
  have h2 : (bs.take 60).length ≤ 60 := by rw [List.length_take]; omega
  unfold textF; omega

theorem take_snoc_getD (bs : List Int) (k : Nat) (h : k < bs.length) : bs.take (k + 1) = bs.take k ++ [bs.getD k 0] := by
  rw [List.take_succ_eq_append_getElem h]
  simp [List.getD, h]

set_option maxRecDepth 100000 in
set_option maxHeartbeats 2000000 in
theorem text_calls (v : Value) (bs : List Int) (w : World) (hv : law.BytesAt w v bs) :
    Calls Tryz.prog 24 #[v] w fun e w' => e = .returned (.string (textF bs)) ∧ Below w.heap.size w w' := by
  rcases hv with ⟨rfl, rfl⟩ | ⟨a, cap, rfl, rfl⟩ | ⟨b, off, cap, rfl, hm, hc⟩
  · go_enter Tryz.func24, Tryz.ntmps24
    go_wp2
    go_loop [4, 5] (fun t i => i = .int .i64 0 ∧ t = .string ⟨#[]⟩) (fun _ _ => 0)
    case atStart => exact ⟨rfl, rfl⟩
    case round =>
      obtain ⟨rfl, rfl⟩ := hrel
      go_wp2
      go_ret
      exact ⟨rfl, (Below.refl _ w).alloc (Nat.le_refl _) _⟩
  · go_enter Tryz.func24, Tryz.ntmps24
    go_wp2
    go_loop [4, 5] (fun t i => i = .int .i64 0 ∧ t = .string ⟨#[]⟩) (fun _ _ => 0)
    case atStart => exact ⟨rfl, rfl⟩
    case round =>
      obtain ⟨rfl, rfl⟩ := hrel
      go_wp2
      go_ret
      exact ⟨rfl, (Below.refl _ w).alloc (Nat.le_refl _) _⟩
  · unfold maxLen at hm
    generalize hn : bs.length = m at hm hc
    have HN := Lib.hid hn
    clear hn
    go_enter Tryz.func24, Tryz.ntmps24
    go_wp2
    go_loop [4, 5] (fun t i => ∃ k : Nat, k ≤ m ∧ k ≤ 60 ∧ i = .int .i64 (k : Int) ∧ t = .string (textAcc (bs.take k))) (fun _ i => 60 - (intOf i).toNat)
    case atStart => exact ⟨0, Nat.zero_le _, Nat.zero_le _, rfl, rfl⟩
    case round =>
      obtain ⟨k, hk, hk60, rfl, rfl⟩ := hrel
      by_cases h1 : k < m
      · by_cases h2 : k < 60
        · have hb1 := textAcc_size (bs.take k)
          have hb2 : (bs.take k).length ≤ k := by rw [List.length_take]; omega
          have hsn := textAcc_snoc (bs.take k) (bs.getD k 0)
          rw [← take_snoc_getD bs k (by rw [HN.out]; exact h1)] at hsn
          obtain ⟨hcell, hx0, hx1⟩ := hc k h1
          have hlt : b < w.heap.size := by
            rcases Nat.lt_or_ge b w.heap.size with h' | h'
            · exact h'
            · simp [World.cell?, Array.getElem?_eq_none h'] at hcell
          generalize bs.getD k 0 = x at hsn hcell hx0 hx1
          have hp := piece_at (x % 14).toNat (by omega)
          have hpc : (w.alloc (.cells pieceCells 9)).cell? ⟨w.heap.size, (x % 14).toNat, none⟩ = some (.string (pieceB (x % 14).toNat)) := by
            rw [← hp]; exact Blk.cell (Blk.new w 9 pieceCells) _
          have hq0 : 0 ≤ x % 14 := by omega
          have hq1 : x % 14 < 14 := by omega
          have HSN := Lib.hid hsn
          have hps := piece_size (x % 14).toNat
          clear hsn hp hc
          unfold pieceCells at hpc
          have hsum : (textAcc (bs.take k)).size + (pieceB (x % 14).toNat).size ≤ maxLen := by unfold maxLen; omega
          go_wp2
          go_round
          case rel => exact ⟨k + 1, by omega, by omega, by go_num, by rw [HSN.out]⟩
          case measure => simp [intOf]; omega
        · obtain rfl : k = 60 := by omega
          have hd : decide (((60 : Nat) : Int) < 60) = false := by decide
          clear hc
          go_wp2
          go_ret
          exact ⟨rfl, (Below.refl _ w).alloc (Nat.le_refl _) _⟩
      · obtain rfl : k = m := by omega
        have hfin : textAcc (bs.take k) = textF bs := by
          unfold textF
          rw [List.take_of_length_le (by rw [HN.out]; omega), List.take_of_length_le (by rw [HN.out]; omega)]
        have HF := Lib.hid hfin
        clear hc hfin
        go_wp2
        go_ret
        exact ⟨by rw [← HF.out]; rfl, (Below.refl _ w).alloc (Nat.le_refl _) _⟩
end Go.Proofs.YtmoamfcaokefiaaGreatDoor.utf
