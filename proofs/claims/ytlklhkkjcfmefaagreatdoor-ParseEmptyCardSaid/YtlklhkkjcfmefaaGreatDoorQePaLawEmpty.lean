/-
  subeditorlaw08.ParseEmpty: for every input it returns true, and the arguments read as they did. No condition.
-/
import Derived.Test.YtlklhkkjcfmefaaGreatDoorQe01
import Derived.Test.YtlklhkkjcfmefaaGreatDoorQe02
import Derived.Test.YtlklhkkjcfmefaaGreatDoorQe03
import Derived.Test.YtlklhkkjcfmefaaGreatDoorQe04
import Derived.Test.YtlklhkkjcfmefaaGreatDoorQe05
import Derived.Test.YtlklhkkjcfmefaaGreatDoorQe06
import Derived.Test.YtlklhkkjcfmefaaGreatDoorQe07
import Derived.Test.YtlklhkkjcfmefaaGreatDoorQe08
import Derived.Test.YtlklhkkjcfmefaaGreatDoorQe09
import Derived.Test.YtlklhkkjcfmefaaGreatDoorQe10
import Derived.Test.YtlklhkkjcfmefaaGreatDoorQe11
import Derived.Test.YtlklhkkjcfmefaaGreatDoorQe12
import Derived.Test.YtlklhkkjcfmefaaGreatDoorQe13
import Derived.Test.YtlklhkkjcfmefaaGreatDoorQe14
import Derived.Test.YtlklhkkjcfmefaaGreatDoorQe15
import Derived.Test.YtlklhkkjcfmefaaGreatDoorQe16
import Derived.Test.YtlklhkkjcfmefaaGreatDoorQe17
import Derived.Test.YtlklhkkjcfmefaaGreatDoorQe18
import Derived.Test.YtlklhkkjcfmefaaGreatDoorQe19
import Derived.Test.YtlklhkkjcfmefaaGreatDoorQe20
import Derived.Test.YtlklhkkjcfmefaaGreatDoorQe21
import Derived.Test.YtlklhkkjcfmefaaGreatDoorQe22
import Derived.Test.YtlklhkkjcfmefaaGreatDoorQe23
import Derived.Test.YtlklhkkjcfmefaaGreatDoorQe24
import Derived.Test.YtlklhkkjcfmefaaGreatDoorQe25
import Derived.Test.YtlklhkkjcfmefaaGreatDoorQe26
import Derived.Test.YtlklhkkjcfmefaaGreatDoorQe27
import Derived.Test.YtlklhkkjcfmefaaGreatDoorQe28
import Derived.Test.YtlklhkkjcfmefaaGreatDoorQe29
import Derived.Test.YtlklhkkjcfmefaaGreatDoorQe30
import Derived.Test.YtlklhkkjcfmefaaGreatDoorQe31
import Derived.Test.YtlklhkkjcfmefaaGreatDoorQe32
import Derived.Test.YtlklhkkjcfmefaaGreatDoorQe33
import Derived.Test.YtlklhkkjcfmefaaGreatDoorQe34
import Derived.Test.YtlklhkkjcfmefaaGreatDoorQe35
import Derived.Test.YtlklhkkjcfmefaaGreatDoorQe36
import Derived.Test.YtlklhkkjcfmefaaGreatDoorQe37
import Derived.Test.YtlklhkkjcfmefaaGreatDoorQe38
import Derived.Test.YtlklhkkjcfmefaaGreatDoorQe39
import Derived.Test.YtlklhkkjcfmefaaGreatDoorQe40
import Derived.Test.YtlklhkkjcfmefaaGreatDoorQe41
import Derived.Test.YtlklhkkjcfmefaaGreatDoorTie
import Derived.Test.YtlklhkkjcfmefaaGreatDoorCards
namespace Go.Proofs.YtlklhkkjcfmefaaGreatDoor.parseEmpty
open Go.RowKit Go.ChangeShapes Go.WideShapes Go.ChangeAt Go.Shelf nd pr sx ed law pa
set_option linter.unusedVariables false

def gapP : List (List UInt8) := [[32], [10], [35, 32, 97, 10], [9]]
def gapB (k : Nat) : ByteArray := ⟨(gapP.getD k []).toArray⟩
def gapCells : Array Value := #[.string ⟨#[32]⟩, .string ⟨#[10]⟩, .string ⟨#[35, 32, 97, 10]⟩, .string ⟨#[9]⟩]
theorem gap_at : ∀ k, k < 4 → gapCells[k]? = some (.string (gapB k))
  | 0, _ => rfl
  | 1, _ => rfl
  | 2, _ => rfl
  | 3, _ => rfl
theorem gap_size (k : Nat) : (gapB k).size ≤ 4 := by
  show (gapP.getD k []).toArray.size ≤ 4
  rw [List.size_toArray]
  rcases Nat.lt_or_ge k 4 with h | h
  · match k, h with
    | 0, _ => decide
    | 1, _ => decide
    | 2, _ => decide
    | 3, _ => decide
  · rw [List.getD_eq_getElem?_getD, List.getElem?_eq_none (show gapP.length ≤ k from h)]; decide
def gapAcc (bs : List Int) : ByteArray := bs.foldl (fun acc b => acc ++ gapB (b % 4).toNat) ⟨#[]⟩
theorem gapAcc_snoc (bs : List Int) (b : Int) : gapAcc (bs ++ [b]) = gapAcc bs ++ gapB (b % 4).toNat := by simp [gapAcc]
theorem gapAcc_size (bs : List Int) : (gapAcc bs).size ≤ 4 * bs.length := by
  have : ∀ (l : List Int) (acc : ByteArray), (l.foldl (fun acc b => acc ++ gapB (b % 4).toNat) acc).size ≤ acc.size + 4 * l.length := by
    intro l
    induction l with
    | nil => intro acc; simp
    | cons b r ih =>
      intro acc
      have h1 := ih (acc ++ gapB (b % 4).toNat)
      have h2 := gap_size (b % 4).toNat
      rw [ByteArray.size_append] at h1
      simp only [List.foldl_cons, List.length_cons]
      omega
  have h := this bs ⟨#[]⟩
  have e : (⟨#[]⟩ : ByteArray).size = 0 := rfl
  rw [e] at h
  unfold gapAcc
  omega
def gapF (bs : List Int) : ByteArray := gapAcc (bs.take 20)
/-- Blanks and notes. -/
inductive Idle : List UInt8 → Prop where
  | nil : Idle []
  | blank (b : UInt8) (r : List UInt8) (h : Sg.cB (b.toNat : Int) = true) (hr : Idle r) : Idle (b :: r)
  | note (r : List UInt8) (hr : Idle r) : Idle (35 :: 32 :: 97 :: 10 :: r)
theorem Idle.app {l m : List UInt8} (hl : Idle l) (hm : Idle m) : Idle (l ++ m) := by
  induction hl with
  | nil => exact hm
  | blank b r h _ ih => exact .blank b _ h ih
  | note r _ ih => exact .note _ ih
theorem Idle.rest {l : List UInt8} (hl : Idle l) : Idle (l.drop (Sg.run Sg.cB l)) := by
  induction hl with
  | nil => exact .nil
  | blank b r h hr ih =>
    have : Sg.run Sg.cB (b :: r) = Sg.run Sg.cB r + 1 := by simp only [Sg.run]; rw [if_pos h]
    rw [this, List.drop_succ_cons]; exact ih
  | note r hr _ => exact .note r hr
theorem Idle.ascii {l : List UInt8} (hl : Idle l) : ∀ b ∈ l, b.toNat < 128 := by
  induction hl with
  | nil => intro b hb; cases hb
  | blank b r h _ ih =>
    intro c hc
    rcases List.mem_cons.1 hc with rfl | hc
    · have := Lx.asc_B _ h; omega
    · exact ih c hc
  | note r _ ih =>
    intro c hc
    simp only [List.mem_cons] at hc
    rcases hc with rfl | rfl | rfl | rfl | hc
    · decide
    · decide
    · decide
    · decide
    · exact ih c hc
theorem gap_idle : ∀ k, Idle (gapB k).data.toList := by
  intro k
  show Idle (gapP.getD k []).toArray.toList
  rw [List.toList_toArray]
  rcases Nat.lt_or_ge k 4 with h | h
  · match k, h with
    | 0, _ => exact .blank _ _ (by decide) .nil
    | 1, _ => exact .blank _ _ (by decide) .nil
    | 2, _ => exact .note _ .nil
    | 3, _ => exact .blank _ _ (by decide) .nil
  · rw [List.getD_eq_getElem?_getD, List.getElem?_eq_none (show gapP.length ≤ k from h)]; exact .nil
theorem acc_idle (bs : List Int) : Idle (gapAcc bs).data.toList := by
  have : ∀ (l : List Int) (acc : ByteArray), Idle acc.data.toList → Idle (l.foldl (fun acc b => acc ++ gapB (b % 4).toNat) acc).data.toList := by
    intro l
    induction l with
    | nil => intro acc h; exact h
    | cons b r ih =>
      intro acc h
      refine ih _ ?_
      rw [ByteArray.data_append, Array.toList_append]
      exact h.app (gap_idle _)
  exact this bs ⟨#[]⟩ .nil
theorem idle_lex : ∀ (n : Nat) (l : List UInt8), l.length ≤ n → Idle l → (Lx.lexA Lx.start l).2 = 0 ∧ ∀ t ∈ (Lx.lexA Lx.start l).1, (t.1 == 1 || t.1 == 2) = true := by
  intro n
  induction n with
  | zero =>
    intro l hn _
    obtain rfl : l = [] := List.length_eq_zero_iff.1 (by omega)
    rw [Lx.lexA_nil]
    exact ⟨rfl, fun t ht => by cases ht⟩
  | succ n ih =>
    intro l hn hl
    cases hl with
    | nil => rw [Lx.lexA_nil]; exact ⟨rfl, fun t ht => by cases ht⟩
    | blank b r h hr =>
      have hrun : Sg.run Sg.cB (b :: r) = Sg.run Sg.cB r + 1 := by simp only [Sg.run]; rw [if_pos h]
      have hf : Lx.find (Lx.tried Lx.start) (b :: r) = some (1, Sg.run Sg.cB (b :: r)) := by
        show (if Sg.run Sg.cB (b :: r) = 0 then _ else some (1, Sg.run Sg.cB (b :: r))) = _
        rw [if_neg (by omega)]
      rw [Lx.step_of (by simp) hf (y := Lx.start) rfl]
      have hi := ih _ (by rw [List.length_drop, List.length_cons] at *; rw [hrun]; omega) (Idle.rest (.blank b r h hr))
      refine ⟨hi.1, fun t ht => ?_⟩
      rcases List.mem_cons.1 ht with rfl | ht
      · rfl
      · exact hi.2 t ht
    | note r hr =>
      have hn3 : 1 + Lx.noteR 0 (32 :: 97 :: 10 :: r) = 3 := by simp [Lx.noteR, Lx.nstep]
      have hf : Lx.find (Lx.tried Lx.start) (35 :: 32 :: 97 :: 10 :: r) = some (2, 3) := by
        have := Lx.find_note (32 :: 97 :: 10 :: r)
        rw [hn3] at this
        exact this
      rw [Lx.step_of (by simp) hf (y := Lx.start) rfl]
      have hi := ih (10 :: r) (by simp only [List.length_cons] at *; omega) (.blank 10 r (by decide) hr)
      refine ⟨hi.1, fun t ht => ?_⟩
      rcases List.mem_cons.1 ht with rfl | ht
      · rfl
      · exact hi.2 t ht
theorem idle_items : ∀ (l : List Lx.Tok) (p : Nat), (∀ t ∈ l, (t.1 == 1 || t.1 == 2) = true) → itemsP p l = []
  | [], _, _ => rfl
  | t :: r, p, h => by
    unfold itemsP
    rw [if_pos (h t List.mem_cons_self)]
    exact idle_items r _ fun u hu => h u (List.mem_cons_of_mem _ hu)
theorem parse_none : parse [] = (none0, 22, 0) := by kernel_rfl
theorem source_none {s : ByteArray} (hs : s.size ≤ 65536) (h : Idle s.data.toList) : utf.checkF s = -1 ∧ sourceP s.data.toList (-1) = (none0, 22, s.size) := by
  have hl : s.data.toList.length = s.size := by rw [Array.length_toList]; rfl
  obtain ⟨h1, h2⟩ := idle_lex _ _ (Nat.le_refl _) h
  refine ⟨lx.check_ok (lx.ok_ascii h.ascii), ?_⟩
  unfold sourceP
  rw [hl, if_neg (by omega), if_neg (by decide), if_pos h1, idle_items _ _ h2]
  unfold itemsR
  rw [if_neg (by rw [List.map_nil, parse_none]; decide), List.map_nil, parse_none]
  rfl

theorem bytes_one {W : World} {v : Value} {bs : List Int} (h : BytesAt W v bs) : ∃ ao cap, v = .slice ao bs.length cap ∧ bs.length ≤ maxLen ∧ ∀ j, j < bs.length → ∃ b off, ao = some ⟨b, off, none⟩ ∧ W.cell? ⟨b, off + j, none⟩ = some (.int .u8 (bs.getD j 0)) ∧ 0 ≤ bs.getD j 0 ∧ bs.getD j 0 ≤ 255 := by
  rcases h with ⟨rfl, rfl⟩ | ⟨a, cap, rfl, rfl⟩ | ⟨b, off, cap, rfl, hm, hc⟩
  · exact ⟨none, 0, rfl, Nat.zero_le _, fun j hj => absurd hj (Nat.not_lt_zero _)⟩
  · exact ⟨some a, cap, rfl, Nat.zero_le _, fun j hj => absurd hj (Nat.not_lt_zero _)⟩
  · exact ⟨some ⟨b, off, none⟩, cap, rfl, hm, fun j hj => ⟨b, off, rfl, hc j hj⟩⟩
theorem take_snocD (bs : List Int) (k : Nat) (h : k < bs.length) : bs.take (k + 1) = bs.take k ++ [bs.getD k 0] := by
  rw [List.take_add_one, List.getElem?_eq_getElem h]
  simp [List.getD, h]

theorem hBL2 {W wr w1 : World} (h : Below W.heap.size W wr) (hb : Below wr.heap.size wr w1) : W.heap.size ≤ w1.heap.size := Nat.le_trans h.size hb.size
theorem none_calls (w : World) (hT : Tb w) : Calls Tryz.prog 18 #[.slice none 0 0] w fun e w' => Below w.heap.size w w' ∧ ∃ a c, e = .returned (.tuple #[.agg #[.int .i64 0, .string ⟨#[]⟩, .slice a 0 c], .int .u16 22, .int .i64 0]) := by
  refine (program_calls [] (.slice none 0 0) w ⟨none, 0, rfl, Nat.zero_le _, fun h => absurd rfl h⟩ (fun g o cap e i hi => absurd hi (Nat.not_lt_zero _)) (fun t ht => by cases ht) (Nat.zero_le _) hT.lev).mono ?_
  rintro e w' ⟨hb, a, c, rfl, _⟩
  exact ⟨hb, a, c, by rw [parse_none]; rfl⟩
theorem same_none (w : World) (a : Option Addr) (c : Nat) : Calls Tryz.prog 20 #[.agg #[.int .i64 0, .string ⟨#[]⟩, .slice a 0 c], .agg #[.int .i64 0, .string ⟨#[]⟩, .slice none 0 0]] w fun e w' => e = .returned (.bool true) ∧ Below w.heap.size w w' :=
  by
    have h := nd.rsame_ok none0 none0 w _ _ (NdAt.mk (kids_nil _ w a c)) (NdAt.mk (kids_nil _ w none 0))
    rw [show none0.same none0 = true by decide +kernel] at h
    exact h

set_option maxRecDepth 100000 in
set_option maxHeartbeats 8000000 in
theorem walk (bs : List Int) (W : World) (v : Value) (hv : BytesAt W v bs) (hT : Tb W) :
    Calls Tryz.prog 10 #[v] W fun e w' => e = .returned (.bool true) ∧ Below W.heap.size W w' := by
  obtain ⟨ao, cap, rfl, hm, hc⟩ := bytes_one hv
  unfold maxLen at hm
  obtain ⟨n, hn⟩ : ∃ n, bs.length = n := ⟨_, rfl⟩
  rw [hn] at hm hc ⊢
  have HN := Lib.hid hn; have HC := Lib.hid hc; have HT := Lib.hid hT
  clear hn hc hT hv
  go_enter Tryz.func10, Tryz.ntmps10
  go_wp2_with fail
  go_loopw [3, 4] (fun t i wr => ∃ k : Nat, k ≤ n ∧ k ≤ 20 ∧ i = .int .i64 (k : Int) ∧ t = .string (gapAcc (bs.take k)) ∧ Below W.heap.size W wr) (fun _ i _ => 20 - (intOf i).toNat)
  case atStart => exact ⟨0, Nat.zero_le _, Nat.zero_le _, rfl, rfl, Below.refl _ _⟩
  case round =>
    obtain ⟨k, hk, hk20, rfl, rfl, hbl⟩ := hrel
    by_cases h1 : k < n ∧ k < 20
    · obtain ⟨h1, h2⟩ := h1
      have hb1 := gapAcc_size (bs.take k)
      have hb2 : (bs.take k).length ≤ k := by rw [List.length_take]; omega
      have hsn := gapAcc_snoc (bs.take k) (bs.getD k 0)
      rw [← take_snocD bs k (by rw [HN.out]; exact h1)] at hsn
      obtain ⟨b, off, rfl, hcell, hx0, hx1⟩ := HC.out k h1
      have hlt : b < W.heap.size := cell_lt hcell
      obtain ⟨x, hx⟩ : ∃ x, bs.getD k 0 = x := ⟨_, rfl⟩
      rw [hx] at hsn hcell hx0 hx1
      obtain ⟨m, hmx⟩ : ∃ m : Nat, x % 4 = (m : Int) := ⟨(x % 4).toNat, by omega⟩
      have hm4 : m < 4 := by omega
      have ht4 : x.tmod 4 = (m : Int) := by rw [Int.tmod_eq_emod_of_nonneg hx0]; exact hmx
      have hcw : wr.cell? ⟨b, off + k, none⟩ = some (.int .u8 x) := (hbl.cell (p := ⟨b, off + k, none⟩) hlt).trans hcell
      have hca : (wr.alloc (.cells gapCells 9)).cell? ⟨b, off + k, none⟩ = some (.int .u8 x) := (((Below.refl wr.heap.size wr).alloc (Nat.le_refl _) _).cell (p := ⟨b, off + k, none⟩) (Nat.lt_of_lt_of_le hlt hbl.size)).trans hcw
      have hpc : (wr.alloc (.cells gapCells 9)).cell? ⟨wr.heap.size, m, none⟩ = some (.string (gapB m)) := ((Blk.new wr 9 gapCells).cell m).trans (gap_at m hm4)
      have hb3 : Below W.heap.size W (wr.alloc (.cells gapCells 9)) := hbl.alloc hbl.size _
      have hps := gap_size m
      rw [hmx, Int.toNat_natCast] at hsn
      have hn1 : (k : Int) < (n : Int) := by omega
      have hn2 : (k : Int) < 20 := by omega
      have d1 : decide ((k : Int) < (n : Int)) = true := decide_eq_true hn1
      have d2 : decide ((k : Int) < 20) = true := decide_eq_true hn2
      have hm256 : (m : Int) % 256 = (m : Int) := by omega
      have hx256 : x % 256 = x := by omega
      have m0 : (0 : Int) ≤ (m : Int) := Int.natCast_nonneg _
      have m1 : (m : Int) < 4 := by omega
      obtain ⟨W2, hW2⟩ : ∃ W2, wr.alloc (.cells gapCells 9) = W2 := ⟨_, rfl⟩
      rw [hW2] at hca hpc hb3
      unfold gapCells at hW2
      have HSN := Lib.hid hsn; have HB3 := Lib.hid hb3
      have hsum : ¬ (9223372036854775807 < (gapAcc (bs.take k)).size + (gapB m).size) := by omega
      clear hsn hbl hb3 hcell hx hb1 hb2
      go_wp2_with fail
      refine ⟨⟨k + 1, by omega, by omega, by simp, by rw [HSN.out], HB3.out⟩, ?_⟩
      simp [intOf]
      omega
    · have hfin : gapAcc (bs.take k) = gapF bs := by
        unfold gapF
        rcases (show k = n ∨ k = 20 by omega) with e | e
        · rw [List.take_of_length_le (by rw [HN.out]; omega), List.take_of_length_le (by rw [HN.out]; omega)]
        · rw [e]
      rw [hfin]
      have hid := acc_idle (bs.take 20)
      have hsz := gapAcc_size (bs.take 20)
      have hl20 : (bs.take 20).length ≤ 20 := by rw [List.length_take]; omega
      obtain ⟨S, hS⟩ : ∃ S, gapF bs = S := ⟨_, rfl⟩
      rw [show gapAcc (bs.take 20) = S from hS] at hid hsz
      rw [hS]
      obtain ⟨hu, hsrc⟩ := source_none (s := S) (by omega) hid
      have HSRC := Lib.hid (fun w (hb : Below W.heap.size W w) => show Calls Tryz.prog 21 #[.string S] w fun e w' => Below w.heap.size w w' ∧ ∃ a c, e = .returned (.tuple #[.agg #[.int .i64 0, .string ⟨#[]⟩, .slice a 0 c], .int .u16 22, .int .i64 (S.size : Int)]) from
        (src_of hu hsrc w (HT.out.own hb)).mono fun e w' h => by
          obtain ⟨hb, a, c, he, _⟩ := h
          exact ⟨hb, a, c, he⟩)
      have HBL := Lib.hid hbl
      have hss : S.size ≤ 80 := by omega
      clear hfin hS hid hsz hl20 hu hsrc hbl
      have hcond : ∃ b1 b2, decide ((k : Int) < (n : Int)) = b1 ∧ decide ((k : Int) < 20) = b2 ∧ decide (k < n) = b1 ∧ decide (k < 20) = b2 ∧ (b1 && b2) = false := by
        refine ⟨decide (k < n), decide (k < 20), by simp, by simp; omega, rfl, rfl, ?_⟩
        rw [← Bool.decide_and, decide_eq_false_iff_not]
        exact h1
      obtain ⟨b1, b2, d1, d2, e1, e2, d3⟩ := hcond
      clear h1
      have HPN := Lib.hid (fun w (hb : Below W.heap.size W w) => none_calls w (HT.out.own hb))
      have HKN := Lib.hid (fun w (hb : Below W.heap.size W w) => known_calls w (HT.out.own hb))
      have h22 : decide ((22 : Int) = 22) = true := rfl
      cases b1
      case' true => obtain rfl : b2 = false := d3
      all_goals
        clear HC HN
        go_wp2_with fail
        ((with_reducible refine (HSRC.out _ HBL.out).mono ?_); rintro e w1 ⟨hb1, a, c, rfl⟩)
        go_upto_region 7 with fail
        obtain ⟨w2, hw2⟩ : ∃ w2, w1.alloc (.cells #[.int .i64 0, .string ⟨#[]⟩, .slice a 0 c] 32) = w2 := ⟨_, rfl⟩
        rw [hw2]
        have hb2 : Below w1.heap.size w1 w2 := by rw [← hw2]; exact (Below.refl _ _).alloc (Nat.le_refl _) _
        have n1 : Blk w2 w1.heap.size 32 #[.int .i64 0, .string ⟨#[]⟩, .slice a 0 c] := by rw [← hw2]; exact Blk.new w1 _ _
        have HB2 := Lib.hid ((HBL.out.trans (hb1.mono HBL.out.size)).trans (hb2.mono (hBL2 HBL.out hb1)))
        have N1 := Lib.hid n1
        clear hw2 hb1 hb2 n1
        go_wp2_with fail
        ((with_reducible refine (HPN.out _ HB2.out).mono ?_); rintro e w3 ⟨hb3, a2, c2, rfl⟩)
        go_upto_region 8 with fail
        obtain ⟨w4, hw4⟩ : ∃ w4, w3.alloc (.cells #[.int .i64 0, .string ⟨#[]⟩, .slice a2 0 c2] 32) = w4 := ⟨_, rfl⟩
        rw [hw4]
        have hb4 : Below w3.heap.size w3 w4 := by rw [← hw4]; exact (Below.refl _ _).alloc (Nat.le_refl _) _
        have hb34 := hb3.trans (hb4.mono hb3.size)
        have HB4 := Lib.hid (HB2.out.trans (hb34.mono HB2.out.size)); have N2 := Lib.hid (N1.out.own hb34)
        clear hw4 hb3 hb4 hb34
        go_wp2_with fail
        ((with_reducible refine (HKN.out _ HB4.out).mono ?_); rintro e w5 ⟨rfl, hb5⟩)
        have n3 := N2.out.own hb5
        have c0 := n3.cell 0; have c1 := n3.cell 1; have c2' := n3.cell 2
        have HB5 := Lib.hid (HB4.out.trans (hb5.mono HB4.out.size))
        have hsame := same_none w5 a c
        clear hb5 n3
        go_wp2_with fail
        ((with_reducible refine hsame.mono ?_); rintro e w6 ⟨rfl, hb6⟩)
        have HB6 := Lib.hid (HB5.out.trans (hb6.mono HB5.out.size))
        clear hsame hb6
        go_wp2_with fail
        go_ret
        exact ⟨rfl, HB6.out⟩

set_option maxRecDepth 100000 in
theorem lifted (os : Os) (started : os.Started) (H : Type) (enc : TypeId × Value → H) :
    ReturnsInHanded {} Tryz.checked os 10 .any (fun w args => (Rows.parseEmptySpec.pre enc Tryz.prog Tryz.f10 Rows.parseEmptyRow.domain false w args ∧ laidMetH Tryz.prog pa.laid w) ∧ sizedMet enc Tryz.prog Tryz.f10 (OpenSpec.ofChange Rows.parseEmptySpec) false w args) (Rows.parseEmptySpec.post enc Tryz.prog Tryz.f10 false true false false) := by
  refine returnsInHanded_of_change_and (C := Tryz.checked) (X := fun w _ => laidMetH Tryz.prog pa.laid w) (fun _ _ _ hh h => h.of_heap hh) law.own started (by kernel_rfl) Tryz.func10
    (ChangeSpec.witness_shaped (enc := enc) (C := Tryz.checked) (os := os) (X := fun w _ => laidMetH Tryz.prog pa.laid w) false (World.laidAll Tryz.prog os pa.laid) #[.slice none 0 0] 8 (World.laidAll_os _ _ _) (World.shaped_of_ZipB (by kernel_rfl) (by kernel_rfl)) (by kernel_rfl) (by kernel_rfl) (by kernel_rfl) (pa.laid_met os _)) ?_
  intro W base args ds gs before hval0 hW _ hsize0 hL _
  have hsize : (DataW.weightsEach Tryz.prog (Tryz.f10.params.toList ++ _) (ds ++ gs)).all (· ≤ reachBytes) = true := hsize0
  have hTb := pa.tb_of_laid hL
  have hval : ∀ (j : Nat) t v, Tryz.f10.params[j]? = some t → args[j]? = some v → Value.okWide Tryz.prog W .any base t v := hval0
  have hW' := hW
  obtain ⟨p, q, hA0, hV, rfl, _, _⟩ := hW
  have hA : DataW.TrodAll enc Tryz.prog W 0 (fun _ => true) true Tryz.f10.params.toList args.toList ds p := hA0
  rw [Tryz.params10] at hA hval
  obtain ⟨v0, vs0, d0, ds0, p0, q0, hargs, rfl, rfl, h0, r0⟩ := trodAll_cons hA
  obtain ⟨rfl, rfl, rfl⟩ := trodAll_nil r0
  obtain rfl : args = #[v0] := by cases args; simp_all
  obtain ⟨rfl, rfl⟩ := trodVars_none hV
  obtain ⟨bs0, hbs0⟩ := law.open_bytes (hval 0 22 v0 rfl rfl) h0
  clear hL
  refine (walk bs0 W v0 hbs0 hTb).mono fun e W' ⟨he, hb⟩ => ⟨_, he, ?_⟩
  exact law.law_post rfl hW' rfl (by kernel_rfl) (by kernel_rfl) hb

/-- ParseEmpty, for every input. -/
theorem holds : Rows.ParseEmptySaid :=
  OpenClaim.holds_of_wide 10 Tryz.f10 rfl rfl rfl rfl rfl rfl rfl ⟨rfl, rfl, rfl, rfl, rfl⟩ rfl rfl rfl rfl rfl (by kernel_rfl) Tryz.func10 (by kernel_rfl)
    (of_decide_eq_true (by kernel_rfl)) (by unfold Func.isWrapper; first | (rw [if_pos (by decide +kernel)]; kernel_rfl) | (rw [if_neg (by decide +kernel)]; exact ⟨rfl, rfl⟩))
    (fun os started H enc _ => lifted os started H enc)

/-- The tied card of ParseEmpty. -/
theorem card : Rows.ParseEmptyCardSaid :=
  Claim7.holds_tied_plain_at .later [] [.data, .widerDeep, .data, .pinned] true Rows.parseEmptyCard.stood.harness true
    holds (fun _ h => by cases h) (by kernel_rfl) (fun _ h => by cases h) parseEmpty_row_tie rfl ⟨rfl, rfl⟩ (by kernel_rfl) rfl
    (fun f fn hf hfn => by
      obtain rfl : f = 10 := Option.some.inj ((show Tryz.prog.funcNamed "subeditor/subeditorlaw08.ParseEmpty" = some 10 by kernel_rfl).symm.trans hf) |>.symm
      obtain rfl : fn = Tryz.f10 := (Option.some.inj (Tryz.func10.symm.trans hfn)).symm
      exact ⟨by kernel_rfl, fun j t ht => by
        rw [Tryz.params10] at ht
        have hm := List.mem_toArray.1 (Array.mem_of_getElem? ht)
        have hall : (Tryz.f10.params.toList.all fun u => !Tryz.prog.wantsStandIn u) = true := by kernel_rfl
        rw [show Tryz.f10.params.toList = _ from congrArg Array.toList Tryz.params10] at hall
        exact (show Tryz.prog.wantsStandIn t = false by simpa using List.all_eq_true.1 hall t hm)⟩)
    (by kernel_rfl)
end Go.Proofs.YtlklhkkjcfmefaaGreatDoor.parseEmpty
