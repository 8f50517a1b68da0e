/-
  subeditorlaw03.SignKeys: for every input it returns true, and the arguments read as they did. No condition.
-/
import Derived.Test.YtdhmcfhpadabaaaDoorSgHelp
import Derived.Test.YtdhmcfhpadabaaaDoorCards
import Derived.Test.YtdhmcfhpadabaaaDoorTie
import Derived.SevenTiedAt
import Derived.Deep.QuietTactic
import Derived.BigQuiet
namespace Go.Proofs.YtdhmcfhpadabaaaDoor.signKeys
open Go.RowKit Go.ChangeShapes Go.WideShapes Go.ChangeAt Go.ChangeMaps
open sg
set_option linter.unusedVariables false


def letB (x : Int) : ByteArray := (⟨#[97, 98, 100, 101, 102, 105, 110, 115, 116, 114, 99, 108, 104, 117, 109, 112, 111, 122, 107, 95]⟩ : ByteArray).extract (x % 20).toNat (x % 20 + 1).toNat
theorem let_ok : ∀ k : Fin 20, ((⟨#[97, 98, 100, 101, 102, 105, 110, 115, 116, 114, 99, 108, 104, 117, 109, 112, 111, 122, 107, 95]⟩ : ByteArray).extract k.1 (k.1 + 1)).size = 1 ∧ ∀ b ∈ ((⟨#[97, 98, 100, 101, 102, 105, 110, 115, 116, 114, 99, 108, 104, 117, 109, 112, 111, 122, 107, 95]⟩ : ByteArray).extract k.1 (k.1 + 1)).data.toList, Sg.cL (b.toNat : Int) = true := by decide +kernel
theorem let_size (x : Int) : (letB x).size = 1 := by
  have h := let_ok ⟨(x % 20).toNat, by omega⟩
  have e : (x % 20 + 1).toNat = (x % 20).toNat + 1 := by omega
  unfold letB; rw [e]; exact h.1
theorem let_all (x : Int) : Sg.all Sg.cL (letB x).data.toList := by
  have h := let_ok ⟨(x % 20).toNat, by omega⟩
  have e : (x % 20 + 1).toNat = (x % 20).toNat + 1 := by omega
  unfold letB; rw [e]; exact h.2
def digB (x : Int) : ByteArray := (⟨#[48, 49, 50, 51, 52, 53, 54, 55, 56, 57]⟩ : ByteArray).extract (x % 10).toNat (x % 10 + 1).toNat
theorem dig_ok : ∀ k : Fin 10, (⟨#[48, 49, 50, 51, 52, 53, 54, 55, 56, 57]⟩ : ByteArray).extract k.1 (k.1 + 1) = ⟨#[UInt8.ofNat (48 + k.1)]⟩ ∧ Sg.cD ((UInt8.ofNat (48 + k.1)).toNat : Int) = true ∧ Sg.cL ((UInt8.ofNat (48 + k.1)).toNat : Int) = false := by decide +kernel
theorem dig_is (x : Int) : ∃ b : UInt8, digB x = ⟨#[b]⟩ ∧ Sg.cD (b.toNat : Int) = true ∧ Sg.cL (b.toNat : Int) = false := by
  have h := dig_ok ⟨(x % 10).toNat, by omega⟩
  have e : (x % 10 + 1).toNat = (x % 10).toNat + 1 := by omega
  unfold digB; rw [e]; exact ⟨_, h⟩

def keyAcc (bs : List Int) : ByteArray := bs.foldl (fun acc b => acc ++ letB b) ⟨#[]⟩
theorem keyAcc_snoc (bs : List Int) (b : Int) : keyAcc (bs ++ [b]) = keyAcc bs ++ letB b := by simp [keyAcc]
theorem keyAcc_ok (bs : List Int) : (keyAcc bs).size = bs.length ∧ Sg.all Sg.cL (keyAcc bs).data.toList := by
  have : ∀ (l : List Int) (acc : ByteArray), Sg.all Sg.cL acc.data.toList → (l.foldl (fun acc b => acc ++ letB b) acc).size = acc.size + l.length ∧ Sg.all Sg.cL (l.foldl (fun acc b => acc ++ letB b) acc).data.toList := by
    intro l
    induction l with
    | nil => intro acc h; exact ⟨rfl, h⟩
    | cons b r ih =>
      intro acc h
      have h1 := ih (acc ++ letB b) (by rw [append_data]; exact h.append (let_all b))
      rw [ByteArray.size_append, let_size] at h1
      refine ⟨?_, h1.2⟩
      rw [List.foldl_cons, h1.1, List.length_cons]; omega
  have h := this bs ⟨#[]⟩ (by intro b hb; simp at hb)
  have e : (⟨#[]⟩ : ByteArray).size = 0 := rfl
  rw [e, Nat.zero_add] at h
  exact h

theorem u8_in {n : Int} (h0 : 0 ≤ n) (h1 : n ≤ 255) : IntKind.u8.wrap n = n := by simp [IntKind.wrap, IntKind.signed, IntKind.bits]; omega

theorem empty_eq' (s : ByteArray) (h : s.size = 0) : s = ⟨#[]⟩ := by
  have hl : s.data.toList = [] := List.length_eq_zero_iff.1 (by rw [lst_len]; exact h)
  cases s; simp at hl; subst hl; rfl
theorem ne_empty' (s : ByteArray) (h : 0 < s.size) : s.toList.isEmpty = false := by
  rw [isEmpty_data]
  cases hl : s.data.toList with
  | nil => rw [← lst_len, hl] at h; exact absurd h (by decide)
  | cons a r => rfl

/-- What the laws' last line asks of a text of letters. -/
structure Keyed (s : ByteArray) : Prop where
  small : s.size ≤ 10
  letters : Sg.all Sg.cL s.data.toList

theorem bytes_uni {W : World} {v : Value} {bs : List Int} (h : law.BytesAt W v bs) : ∃ ao cap, v = .slice ao bs.length cap ∧ bs.length ≤ maxLen ∧
    ∀ j, j < bs.length → ∃ b off, ao = some ⟨b, off, none⟩ ∧ W.cell? ⟨b, off + j, none⟩ = some (.int .u8 (bs.getD j 0)) ∧ 0 ≤ bs.getD j 0 ∧ bs.getD j 0 ≤ 255 := by
  rcases h with ⟨rfl, rfl⟩ | ⟨a, cap, rfl, rfl⟩ | ⟨b, off, cap, rfl, hm, hc⟩
  · exact ⟨none, 0, rfl, Nat.zero_le _, fun j hj => absurd hj (Nat.not_lt_zero j)⟩
  · exact ⟨some a, cap, rfl, Nat.zero_le _, fun j hj => absurd hj (Nat.not_lt_zero j)⟩
  · exact ⟨_, cap, rfl, hm, fun j hj => ⟨b, off, rfl, hc j hj⟩⟩

/-- The calls of the last line, at a text of letters and a digit. -/
structure Facts (s : ByteArray) (nb : UInt8) : Prop where
  small : s.size ≤ 10
  word : Sg.word s.data.toList = s.size
  plain : Sg.plain s.data.toList = (!s.data.toList.isEmpty && !Sg.key s.data.toList)
  p1 : Sg.plain ((⟨#[nb]⟩ : ByteArray) ++ s).data.toList = false
  p2 : Sg.plain ((⟨#[120]⟩ : ByteArray) ++ s ++ ⟨#[nb]⟩).data.toList = true
  k1 : Sg.key (s ++ ⟨#[nb]⟩).data.toList = false
  p3 : Sg.plain (s ++ ⟨#[58, 58]⟩ ++ s).data.toList = false
theorem facts_of {s : ByteArray} {nb : UInt8} (hs : s.size ≤ 10) (ha : Sg.all Sg.cL s.data.toList) (hD : Sg.cD (nb.toNat : Int) = true) (hL : Sg.cL (nb.toNat : Int) = false) : Facts s nb := by
  refine ⟨hs, by rw [Sg.word_letters ha, lst_len], Sg.plain_letters ha, ?_, ?_, ?_, ?_⟩
  · rw [append_data]; exact Sg.plain_digit hL _
  · rw [append_data, append_data]; exact Sg.plain_x ha hD
  · rw [append_data]; exact Sg.key_digit hD _
  · rw [append_data, append_data]; exact Sg.plain_colons ha

set_option maxRecDepth 100000 in
set_option maxHeartbeats 4000000 in
theorem walk (v : Value) (bs : List Int) (d : Int) (hd : 0 ≤ d ∧ d ≤ 255) (w : World) (hv : law.BytesAt w v bs) (hw : OpsAt w) :
    Calls Tryd.prog 5 #[v, .int .u8 d] w fun e W' => e = .returned (.bool true) ∧ Below w.heap.size w W' := by
  obtain ⟨ao, cap, rfl, hm, hc⟩ := bytes_uni hv
  · unfold maxLen at hm
    generalize hn : bs.length = m at hm hc
    have HN := Lib.hid hn; have HW := Lib.hid hw; have HC := Lib.hid hc
    obtain ⟨nb, hdig, hnD, hnL⟩ := dig_is d
    unfold digB at hdig
    obtain ⟨qd, hqd⟩ : ∃ qd, d % 10 = qd := ⟨_, rfl⟩
    have hd0 : 0 ≤ qd := by omega
    have hd1 : qd < 10 := by omega
    rw [hqd] at hdig
    have hd2 : qd + 1 ≤ 10 := by omega
    have hd3 : 0 ≤ qd + 1 := by omega
    have hd4 : qd ≤ qd + 1 := by omega
    have HND := Lib.hid hnD; have HNL := Lib.hid hnL
    clear hn hw hc hv hnD hnL
    go_enter Tryd.func5, Tryd.ntmps5
    go_wp2_with fail
    go_loopw [5, 6] (fun t i wr => ∃ (k nq : Nat), i = .int .i64 (k : Int) ∧ k ≤ m ∧ k ≤ 10 ∧ t = .string (keyAcc (bs.take k)) ∧ wr = w.drewN nq) (fun _ i _ => 10 - (intOf i).toNat)
    case atStart => exact ⟨0, 0, rfl, Nat.zero_le _, Nat.zero_le _, rfl, rfl⟩
    case round =>
      obtain ⟨k, nq, rfl, hk, hk10, rfl, rfl⟩ := hrel
      by_cases h1 : k < m
      · by_cases h2 : k < 10
        · have hok := (keyAcc_ok (bs.take k)).1
          have hb2 : (bs.take k).length ≤ k := by rw [List.length_take]; omega
          have hsn := keyAcc_snoc (bs.take k) (bs.getD k 0)
          rw [← take_snoc_getD bs k (by rw [HN.out]; exact h1)] at hsn
          obtain ⟨b, off, rfl, hcell, hx0, hx1⟩ := HC.out k h1
          generalize bs.getD k 0 = x at hsn hcell hx0 hx1
          have hq0 : 0 ≤ x % 20 := by omega
          have hq1 : x % 20 < 20 := by omega
          have hsz := let_size x
          have g1 : (0 : Int) ≤ (k : Int) := by omega
          have g2 : (k : Int) < (m : Int) := by omega
          have g3 : decide ((k : Int) < 10) = true := decide_eq_true (by omega)
          have hcell2 : (w.drewN nq).cell? ⟨b, off + k, none⟩ = some (.int .u8 x) := hcell
          obtain ⟨q, hq⟩ : ∃ q, x.tmod 20 = q := ⟨_, rfl⟩
          obtain ⟨q1, hq1'⟩ : ∃ q1, q + 1 = q1 := ⟨_, rfl⟩
          have hqe : x % 20 = q := by rw [← hq, Int.tmod_eq_emod_of_nonneg hx0]
          rw [hqe] at hq0 hq1
          have hlet : letB x = (⟨#[97, 98, 100, 101, 102, 105, 110, 115, 116, 114, 99, 108, 104, 117, 109, 112, 111, 122, 107, 95]⟩ : ByteArray).extract q.toNat q1.toNat := by unfold letB; rw [hqe, hq1']
          have hwq : IntKind.u8.wrap (q + 1) = q1 := by rw [hq1']; exact u8_in (by omega) (by omega)
          have l1 : q ≤ q1 := by omega
          have l2 : q1 ≤ 20 := by omega
          have l3 : 0 ≤ q1 := by omega
          rw [hlet] at hsn hsz
          obtain ⟨acc, hacc⟩ : ∃ acc, keyAcc (bs.take k) = acc := ⟨_, rfl⟩
          rw [hacc] at hok hsn ⊢
          have HS := Lib.hid hsn
          have hsum : ¬ (9223372036854775807 < acc.size + ((⟨#[97, 98, 100, 101, 102, 105, 110, 115, 116, 114, 99, 108, 104, 117, 109, 112, 111, 122, 107, 95]⟩ : ByteArray).extract q.toNat q1.toNat).size) := by rw [hsz]; omega
          clear hsn hacc hqe hlet hq1'
          go_wp2_with fail
          go_quiet (fail)
          rename_i nq2
          go_wp2_with fail
          go_roundw
          case rel => exact ⟨k + 1, _, by go_num, by omega, by omega, by rw [HS.out], rfl⟩
          case measure => simp [intOf]; omega
        · have hk0 : k = 10 := by omega
          subst hk0
          have hok := keyAcc_ok (bs.take 10)
          have hl10 : (bs.take 10).length = 10 := by rw [List.length_take, HN.out]; omega
          have HF := Lib.hid (facts_of (s := keyAcc (bs.take 10)) (by rw [hok.1, hl10]; exact Nat.le_refl _) hok.2 HND.out HNL.out)
          have hne : 0 < (keyAcc (bs.take 10)).size := by rw [hok.1, hl10]; decide
          obtain ⟨S, hS⟩ : ∃ S, keyAcc (bs.take 10) = S := ⟨_, rfl⟩
          rw [hS] at HF hne ⊢
          have t10 : decide (((10 : Nat) : Int) < 10) = false := by decide
          clear hok hl10 hS
          have hS10 := HF.out.small
          have hnE : S.toList.isEmpty = false := ne_empty' S hne
          have hnE2 : S.data.toList.isEmpty = false := by rw [← isEmpty_data]; exact hnE
          have q0 := Lib.hid (fun w => plain_is S (by omega) (!Sg.key S.data.toList) (by rw [HF.out.plain, hnE2]; rfl) w)
          have q1 := Lib.hid (fun w => key_is S (by omega) (Sg.key S.data.toList) rfl w)
          have q2 := Lib.hid (fun w => word_is S (by omega) S.size HF.out.word w)
          have q3 := Lib.hid (fun w => plain_is (⟨#[nb]⟩ ++ S) (by rw [ByteArray.size_append]; show 1 + S.size ≤ _; omega) false HF.out.p1 w)
          have q4 := Lib.hid (fun w => plain_is (⟨#[120]⟩ ++ S ++ ⟨#[nb]⟩) (by rw [ByteArray.size_append, ByteArray.size_append]; show 1 + S.size + 1 ≤ _; omega) true HF.out.p2 w)
          have q5 := Lib.hid (fun w => key_is (S ++ ⟨#[nb]⟩) (by rw [ByteArray.size_append]; show S.size + 1 ≤ _; omega) false HF.out.k1 w)
          have q6 := Lib.hid (fun w => plain_is (S ++ ⟨#[58, 58]⟩ ++ S) (by rw [ByteArray.size_append, ByteArray.size_append]; show S.size + 2 + S.size ≤ _; omega) false HF.out.p3 w)
          have HB := Lib.hid (show Below w.heap.size w (w.drewN nq) from ⟨rfl, rfl, rfl, Nat.le_refl _, fun _ _ => rfl⟩)
          go_wp2_with fail
          ((with_reducible refine (known_calls _ (HW.out.own HB.out)).mono ?_); rintro e w1 ⟨rfl, hb1⟩)
          go_wp2_with fail
          ((with_reducible refine (q0.out _).mono ?_); rintro e w2 ⟨rfl, hb2⟩)
          go_wp2_with fail
          ((with_reducible refine (q1.out _).mono ?_); rintro e w3 ⟨rfl, hb3⟩)
          go_wp2_with fail
          ((with_reducible refine (q2.out _).mono ?_); rintro e w4 ⟨rfl, rfl⟩)
          go_wp2_with fail
          ((with_reducible refine (q3.out _).mono ?_); rintro e w5 ⟨rfl, hb5⟩)
          go_wp2_with fail
          ((with_reducible refine (q4.out _).mono ?_); rintro e w6 ⟨rfl, hb6⟩)
          go_wp2_with fail
          ((with_reducible refine (q5.out _).mono ?_); rintro e w7 ⟨rfl, hb7⟩)
          go_wp2_with fail
          ((with_reducible refine (q6.out _).mono ?_); rintro e w8 ⟨rfl, hb8⟩)
          go_wp2_with fail
          go_ret
          exact ⟨rfl, Below.next (Below.next (Below.next (Below.next (Below.next (Below.next (Below.next HB.out hb1 (Nat.le_refl _)) hb2 (Nat.le_refl _)) hb3 (Nat.le_refl _)) hb5 (Nat.le_refl _)) hb6 (Nat.le_refl _)) hb7 (Nat.le_refl _)) hb8 (Nat.le_refl _)⟩
      · have hk0 : k = m := by omega
        subst hk0
        have htk : bs.take k = bs := List.take_of_length_le (by rw [HN.out]; exact Nat.le_refl _)
        have hok := keyAcc_ok bs
        have HF := Lib.hid (facts_of (s := keyAcc bs) (by rw [hok.1, HN.out]; exact hk10) hok.2 HND.out HNL.out)
        rw [htk]
        obtain ⟨S, hS⟩ : ∃ S, keyAcc bs = S := ⟨_, rfl⟩
        rw [hS] at HF ⊢
        have tk : decide ((k : Int) < (k : Int)) = false := by simp
        clear hok hS htk
        rcases Nat.eq_zero_or_pos S.size with hz | hne
        · have hS0 := empty_eq' S hz
          have hnE : S.toList.isEmpty = true := by rw [isEmpty_data, hS0]; rfl
          have hnE2 : S.data.toList.isEmpty = true := by rw [← isEmpty_data]; exact hnE
          have q0 := Lib.hid (fun w => plain_is S (by rw [hS0]; decide) false (by rw [HF.out.plain, hnE2]; rfl) w)
          clear hS0 hz
          have hS10 := HF.out.small
          have q2 := Lib.hid (fun w => word_is S (by omega) S.size HF.out.word w)
          have q3 := Lib.hid (fun w => plain_is (⟨#[nb]⟩ ++ S) (by rw [ByteArray.size_append]; show 1 + S.size ≤ _; omega) false HF.out.p1 w)
          have q4 := Lib.hid (fun w => plain_is (⟨#[120]⟩ ++ S ++ ⟨#[nb]⟩) (by rw [ByteArray.size_append, ByteArray.size_append]; show 1 + S.size + 1 ≤ _; omega) true HF.out.p2 w)
          have q5 := Lib.hid (fun w => key_is (S ++ ⟨#[nb]⟩) (by rw [ByteArray.size_append]; show S.size + 1 ≤ _; omega) false HF.out.k1 w)
          have q6 := Lib.hid (fun w => plain_is (S ++ ⟨#[58, 58]⟩ ++ S) (by rw [ByteArray.size_append, ByteArray.size_append]; show S.size + 2 + S.size ≤ _; omega) false HF.out.p3 w)
          have HB := Lib.hid (show Below w.heap.size w (w.drewN nq) from ⟨rfl, rfl, rfl, Nat.le_refl _, fun _ _ => rfl⟩)
          go_wp2_with fail
          ((with_reducible refine (known_calls _ (HW.out.own HB.out)).mono ?_); rintro e w1 ⟨rfl, hb1⟩)
          go_wp2_with fail
          ((with_reducible refine (q0.out _).mono ?_); rintro e w2 ⟨rfl, hb2⟩)
          go_wp2_with fail
          ((with_reducible refine (q2.out _).mono ?_); rintro e w4 ⟨rfl, rfl⟩)
          go_wp2_with fail
          ((with_reducible refine (q3.out _).mono ?_); rintro e w5 ⟨rfl, hb5⟩)
          go_wp2_with fail
          ((with_reducible refine (q4.out _).mono ?_); rintro e w6 ⟨rfl, hb6⟩)
          go_wp2_with fail
          ((with_reducible refine (q5.out _).mono ?_); rintro e w7 ⟨rfl, hb7⟩)
          go_wp2_with fail
          ((with_reducible refine (q6.out _).mono ?_); rintro e w8 ⟨rfl, hb8⟩)
          go_wp2_with fail
          go_ret
          exact ⟨rfl, Below.next (Below.next (Below.next (Below.next (Below.next (Below.next HB.out hb1 (Nat.le_refl _)) hb2 (Nat.le_refl _)) hb5 (Nat.le_refl _)) hb6 (Nat.le_refl _)) hb7 (Nat.le_refl _)) hb8 (Nat.le_refl _)⟩
        · have hS10 := HF.out.small
          have hnE : S.toList.isEmpty = false := ne_empty' S hne
          have hnE2 : S.data.toList.isEmpty = false := by rw [← isEmpty_data]; exact hnE
          have q0 := Lib.hid (fun w => plain_is S (by omega) (!Sg.key S.data.toList) (by rw [HF.out.plain, hnE2]; rfl) w)
          have q1 := Lib.hid (fun w => key_is S (by omega) (Sg.key S.data.toList) rfl w)
          have q2 := Lib.hid (fun w => word_is S (by omega) S.size HF.out.word w)
          have q3 := Lib.hid (fun w => plain_is (⟨#[nb]⟩ ++ S) (by rw [ByteArray.size_append]; show 1 + S.size ≤ _; omega) false HF.out.p1 w)
          have q4 := Lib.hid (fun w => plain_is (⟨#[120]⟩ ++ S ++ ⟨#[nb]⟩) (by rw [ByteArray.size_append, ByteArray.size_append]; show 1 + S.size + 1 ≤ _; omega) true HF.out.p2 w)
          have q5 := Lib.hid (fun w => key_is (S ++ ⟨#[nb]⟩) (by rw [ByteArray.size_append]; show S.size + 1 ≤ _; omega) false HF.out.k1 w)
          have q6 := Lib.hid (fun w => plain_is (S ++ ⟨#[58, 58]⟩ ++ S) (by rw [ByteArray.size_append, ByteArray.size_append]; show S.size + 2 + S.size ≤ _; omega) false HF.out.p3 w)
          have HB := Lib.hid (show Below w.heap.size w (w.drewN nq) from ⟨rfl, rfl, rfl, Nat.le_refl _, fun _ _ => rfl⟩)
          go_wp2_with fail
          ((with_reducible refine (known_calls _ (HW.out.own HB.out)).mono ?_); rintro e w1 ⟨rfl, hb1⟩)
          go_wp2_with fail
          ((with_reducible refine (q0.out _).mono ?_); rintro e w2 ⟨rfl, hb2⟩)
          go_wp2_with fail
          ((with_reducible refine (q1.out _).mono ?_); rintro e w3 ⟨rfl, hb3⟩)
          go_wp2_with fail
          ((with_reducible refine (q2.out _).mono ?_); rintro e w4 ⟨rfl, rfl⟩)
          go_wp2_with fail
          ((with_reducible refine (q3.out _).mono ?_); rintro e w5 ⟨rfl, hb5⟩)
          go_wp2_with fail
          ((with_reducible refine (q4.out _).mono ?_); rintro e w6 ⟨rfl, hb6⟩)
          go_wp2_with fail
          ((with_reducible refine (q5.out _).mono ?_); rintro e w7 ⟨rfl, hb7⟩)
          go_wp2_with fail
          ((with_reducible refine (q6.out _).mono ?_); rintro e w8 ⟨rfl, hb8⟩)
          go_wp2_with fail
          go_ret
          exact ⟨rfl, Below.next (Below.next (Below.next (Below.next (Below.next (Below.next (Below.next HB.out hb1 (Nat.le_refl _)) hb2 (Nat.le_refl _)) hb3 (Nat.le_refl _)) hb5 (Nat.le_refl _)) hb6 (Nat.le_refl _)) hb7 (Nat.le_refl _)) hb8 (Nat.le_refl _)⟩

set_option maxRecDepth 100000 in
theorem door_met (os : Os) (args : Array Value) : laidMetH Tryd.prog laid ((World.doorLaid Tryd.prog 14 os).forCall (fun _ _ => 0) ⟨#[], args, []⟩).memory :=
  laidMetH_of_parts3 (fuel := 8) (laidMet_of_run' 8 (by kernel_rfl) (by kernel_rfl)) (by kernel_rfl) (by kernel_rfl)

set_option maxRecDepth 100000 in
theorem lifted (os : Os) (started : os.Started) (H : Type) (enc : TypeId × Value → H) :
    ReturnsInHanded {} Tryd.checked os 5 .any (fun w args => (Rows.signKeysSpec.pre enc Tryd.prog Tryd.f5 Rows.signKeysRow.domain false w args ∧ laidMetH Tryd.prog laid w) ∧ sizedMet enc Tryd.prog Tryd.f5 (OpenSpec.ofChange Rows.signKeysSpec) false w args) (Rows.signKeysSpec.post enc Tryd.prog Tryd.f5 false true false false) := by
  refine returnsInHanded_of_change_and (C := Tryd.checked) (X := fun w _ => laidMetH Tryd.prog laid w) (fun _ _ _ hh h => h.of_heap hh) law.own started (by kernel_rfl) Tryd.func5
    (ChangeSpec.witness_shaped (enc := enc) (C := Tryd.checked) (os := os) (X := fun w _ => laidMetH Tryd.prog laid w) false (World.doorLaid Tryd.prog 14 os) #[.slice none 0 0, .int .u8 0] 8 rfl (World.shaped_of_RefB (by kernel_rfl) (by kernel_rfl)) (by kernel_rfl) (by kernel_rfl) (by kernel_rfl) (door_met os _)) ?_
  intro W base args ds gs before hval0 hW _ hsize0 hL _
  have hsize : (DataW.weightsEach Tryd.prog (Tryd.f5.params.toList ++ _) (ds ++ gs)).all (· ≤ reachBytes) = true := hsize0
  have hOps := ops_of_laid hL
  have hval : ∀ (j : Nat) t v, Tryd.f5.params[j]? = some t → args[j]? = some v → Value.okWide Tryd.prog W .any base t v := hval0
  have hW' := hW
  obtain ⟨p, q, hA0, hV, rfl, _, _⟩ := hW
  have hA : DataW.TrodAll enc Tryd.prog W 0 (fun _ => true) true Tryd.f5.params.toList args.toList ds p := hA0
  rw [Tryd.params5] at hA hval
  obtain ⟨v0, v1, d0, d1, p0, p1, rfl, rfl, rfl, h0, h1⟩ := trodAll_two hA
  obtain ⟨rfl, rfl⟩ := trodVars_none hV
  obtain ⟨bs, hbs⟩ := law.open_bytes (hval 0 22 v0 rfl rfl) h0
  obtain ⟨x, rfl, rfl, rfl, wx⟩ := open_int Tryd.underlying5 (hval 1 5 v1 rfl rfl) h1
  have hx := law.u8_wf wx
  clear hL
  refine (walk v0 bs x hx W hbs hOps).mono fun e W' ⟨he, hb⟩ => ⟨_, he, ?_⟩
  exact law.law_post rfl hW' rfl (by kernel_rfl) (by kernel_rfl) hb

/-- SignKeys, for every input. -/
theorem holds : Rows.SignKeysSaid :=
  OpenClaim.holds_of_wide 5 Tryd.f5 rfl rfl rfl rfl rfl rfl rfl ⟨rfl, rfl, rfl, rfl, rfl⟩ rfl rfl rfl rfl rfl (by kernel_rfl) Tryd.func5 (by kernel_rfl)
    (of_decide_eq_true (by kernel_rfl)) (by unfold Func.isWrapper; first | (rw [if_pos (by decide +kernel)]; kernel_rfl) | (rw [if_neg (by decide +kernel)]; exact ⟨rfl, rfl⟩))
    (fun os started H enc _ => lifted os started H enc)

/-- The tied card of SignKeys. -/
theorem card : Rows.SignKeysCardSaid :=
  Claim7.holds_tied_plain_at .later [] [.data] true Rows.signKeysCard.stood.harness false
    holds (fun _ h => by cases h) (by kernel_rfl) (fun _ h => by cases h) signKeys_row_tie rfl ⟨rfl, rfl⟩ (by kernel_rfl) rfl
    (fun f fn hf hfn => by
      obtain rfl : f = 5 := Option.some.inj ((show Tryd.prog.funcNamed "subeditor/subeditorlaw03.SignKeys" = some 5 by kernel_rfl).symm.trans hf) |>.symm
      obtain rfl : fn = Tryd.f5 := (Option.some.inj (Tryd.func5.symm.trans hfn)).symm
      exact ⟨by kernel_rfl, fun j t ht => by
        rw [Tryd.params5] at ht
        have hm := List.mem_toArray.1 (Array.mem_of_getElem? ht)
        have hall : (Tryd.f5.params.toList.all fun u => !Tryd.prog.wantsStandIn u) = true := by kernel_rfl
        rw [show Tryd.f5.params.toList = _ from congrArg Array.toList Tryd.params5] at hall
        exact (show Tryd.prog.wantsStandIn t = false by simpa using List.all_eq_true.1 hall t hm)⟩)
    (by kernel_rfl)
end Go.Proofs.YtdhmcfhpadabaaaDoor.signKeys
