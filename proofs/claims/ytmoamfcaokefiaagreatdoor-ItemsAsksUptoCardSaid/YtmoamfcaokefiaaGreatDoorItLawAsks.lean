/-
  subeditorlaw05.ItemsAsks: for every input it returns true, and the arguments read as they did. No condition.
-/
import Derived.Test.YtmoamfcaokefiaaGreatDoorItDocsS
import Derived.Test.YtmoamfcaokefiaaGreatDoorLxSource
import Derived.Test.YtmoamfcaokefiaaGreatDoorCards
import Derived.Test.YtmoamfcaokefiaaGreatDoorTie
import Derived.SevenTiedAt
import Derived.Deep.DeepHandedRow
namespace Go.Proofs.YtmoamfcaokefiaaGreatDoor.itemsAsks
open Go.RowKit Go.ChangeShapes Go.WideShapes Go.ChangeAt Go.ChangeMaps
open sg (OpsAt lst_len)
open lx
set_option linter.unusedVariables false

open it
theorem small_both {H : Type} {d0 d1 d2 d3 d4 : DataW H} {n a b : Nat} (h : n ≤ Rows.uptoBulk d0) (ha : a ≤ Rows.uptoBulk d1) (hb : b ≤ Rows.uptoBulk d2) (hk : Rows.uptoSmall H ([d0, d1, d2, d3, d4] ++ []) = true) : n ≤ 1048576 ∧ a + b ≤ 1048576 := by
  have := of_decide_eq_true hk
  simp only [Rows.uptoBulkAll, List.append_nil] at this
  omega
theorem wraps {x : Int} {m n i i2 : Nat} (hx0 : 0 ≤ x) (hx1 : x ≤ 255) (hm : n = m + 1) (hmm : m ≤ 65536) (hm1 : 1 ≤ m) (hi : x.toNat % m = i) (hi2 : i + 1 = i2) :
    wrap64 x = x ∧ IntKind.i64.wrap x = x ∧ wrap64 ((n : Int) - 1) = (m : Int) ∧ IntKind.i64.wrap ((n : Int) - 1) = (m : Int) ∧ Int.tmod x (m : Int) = (i : Int) ∧ wrap64 (i : Int) = (i : Int) ∧ IntKind.i64.wrap (i : Int) = (i : Int) ∧ wrap64 ((i : Int) + 1) = (i2 : Int) ∧ IntKind.i64.wrap ((i : Int) + 1) = (i2 : Int) := by
  have him : i < m := by rw [← hi]; exact Nat.mod_lt _ (by omega)
  have w1 : wrap64 x = x := IntWalk.wrap64_in _ (by omega)
  have w2 : wrap64 ((n : Int) - 1) = (m : Int) := by rw [IntWalk.wrap64_in _ (by omega)]; omega
  have w3 : wrap64 (i : Int) = (i : Int) := IntWalk.wrap64_in _ (by omega)
  have w4 : wrap64 ((i : Int) + 1) = (i2 : Int) := by rw [IntWalk.wrap64_in _ (by omega)]; omega
  have h5 : Int.tmod x (m : Int) = (i : Int) := by
    obtain ⟨y, rfl⟩ : ∃ y : Nat, x = (y : Int) := ⟨x.toNat, by omega⟩
    rw [Int.tmod_eq_emod_of_nonneg (by omega), ← hi]
    simp
  exact ⟨w1, (IntWalk.i64_left _).trans w1, w2, (IntWalk.i64_left _).trans w2, h5, w3, (IntWalk.i64_left _).trans w3, w4, (IntWalk.i64_left _).trans w4⟩
theorem err_nil {l : List UInt8} {chk : Int} {ts : List Lx.Tok} {er at' : Int} (h : tokensF l chk = (ts, er, at')) : er = 0 ∨ ts = [] := by
  unfold tokensF at h
  split at h
  · exact .inr (Prod.mk.inj h).1.symm
  · split at h
    · exact .inr (Prod.mk.inj h).1.symm
    · split at h
      · exact .inl (Prod.mk.inj (Prod.mk.inj h).2).1.symm
      · exact .inr (Prod.mk.inj h).1.symm
theorem sum_as (l : List Lx.Tok) : sizeT (l.map asTk) = Lx.size l := by
  unfold sizeT Lx.size
  rw [List.map_map]
  congr 1
theorem tokens_sum (s : ByteArray) : Lx.size (tokensF s.data.toList (utf.checkF s)).1 ≤ s.size := by
  have h1 := Lx.size_le Lx.start s.data.toList
  rw [lst_len] at h1
  unfold tokensF
  split
  · exact Nat.zero_le _
  · split
    · exact Nat.zero_le _
    · split
      · exact h1
      · exact Nat.zero_le _
/-- What is known of a source's tokens. -/
structure Src (l : List Lx.Tok) (ts : List Tk) : Prop where
  e : l.map asTk = ts
  n : ts.length = l.length
  len : l.length ≤ 300
  sum : sizeT ts ≤ 300
  fit : ∀ t ∈ ts, Fits t
theorem Src.of {s : ByteArray} (hs : s.size ≤ 300) {l : List Lx.Tok} {e at' : Int} (he : tokensF s.data.toList (utf.checkF s) = (l, e, at')) : Src l (l.map asTk) := by
  have h1 := tokens_sum s
  have h2 := tok_len s he
  rw [he] at h1
  simp only at h1
  refine ⟨rfl, List.length_map .., by omega, by rw [sum_as]; omega, ?_⟩
  rcases err_nil he with h0 | h0
  · subst h0
    obtain ⟨_, _, rfl⟩ := told_ok he
    exact fits_told (by omega) he
  · subst h0
    intro t ht; cases ht
set_option maxRecDepth 100000 in
set_option maxHeartbeats 8000000 in
theorem walk_many (v vc : Value) (ts : List Tk) (ka kb : Int) (ta tb : ByteArray) (x : Int) (w : World) (hts : TksAt w.heap.size w v ts) (hm : manyT ts ≤ 1048576) (h300 : (300 : Int) < (manyT ts : Int)) (hw : OpsAt w) :
    Calls Tryz.prog 3 #[v, .agg #[.int .i64 ka, .string ta], .agg #[.int .i64 kb, .string tb], vc, .int .u8 x] w fun e W' => e = .returned (.bool true) ∧ Below w.heap.size w W' := by
  have hmc := fun w2 (hb : Below w.heap.size w w2) => many5_calls v ts w2 w.heap.size (hts.below hb (Nat.le_refl _)) hm
  rw [decide_eq_true h300] at hmc
  obtain ⟨W1, hW1⟩ : ∃ W1, (w.alloc (.cells #[.int .i64 ka, .string ta] 24)).alloc (.cells #[.int .i64 kb, .string tb] 24) = W1 := ⟨_, rfl⟩
  obtain ⟨hb1, k1, k2⟩ := rtwo_box w ka kb ta tb W1 hW1
  have HB1 := Lib.hid hb1; have HX := Lib.hid hW1; have HW := Lib.hid hw; have HMC := Lib.hid hmc
  clear hts hm h300 hw hmc hb1 k1 k2 hW1
  go_enter Tryz.func3, Tryz.ntmps3
  go_wp2_with fail
  rw [HX.out]
  ((with_reducible refine (HMC.out _ HB1.out).mono ?_); rintro _ w2 ⟨rfl, hb2⟩)
  have HB2 := Lib.hid (sg.Below.next HB1.out hb2 (Nat.le_refl _))
  clear hb2
  go_wp2_with fail
  ((with_reducible refine (it.known_calls _ (HW.out.own HB2.out)).mono ?_); rintro _ w3 ⟨rfl, hb3⟩)
  have HB3 := Lib.hid (sg.Below.next HB2.out hb3 (Nat.le_refl _))
  clear hb3
  go_wp2_with fail
  go_ret
  exact ⟨rfl, HB3.out⟩
theorem sumw {a b : Nat} (h : a + b ≤ 1048576) : wrap64 ((a : Int) + (b : Int)) = (a : Int) + (b : Int) := IntWalk.wrap64_in _ (by omega)
set_option maxRecDepth 100000 in
set_option maxHeartbeats 8000000 in
theorem walk_ab (v vc : Value) (ts : List Tk) (ka kb : Int) (ta tb : ByteArray) (x : Int) (w : World) (hts : TksAt w.heap.size w v ts) (hm : manyT ts ≤ 1048576) (h300 : ¬ (300 : Int) < (manyT ts : Int)) (hab : ta.size + tb.size ≤ 1048576) (h200 : 200 < ta.size + tb.size) (hw : OpsAt w) :
    Calls Tryz.prog 3 #[v, .agg #[.int .i64 ka, .string ta], .agg #[.int .i64 kb, .string tb], vc, .int .u8 x] w fun e W' => e = .returned (.bool true) ∧ Below w.heap.size w W' := by
  have hmc := fun w2 (hb : Below w.heap.size w w2) => many5_calls v ts w2 w.heap.size (hts.below hb (Nat.le_refl _)) hm
  rw [decide_eq_false h300] at hmc
  obtain ⟨W1, hW1⟩ : ∃ W1, (w.alloc (.cells #[.int .i64 ka, .string ta] 24)).alloc (.cells #[.int .i64 kb, .string tb] 24) = W1 := ⟨_, rfl⟩
  obtain ⟨hb1, k1, k2⟩ := rtwo_box w ka kb ta tb W1 hW1
  have q1 := sumw hab
  have q2 : IntKind.i64.wrap ((ta.size : Int) + (tb.size : Int)) = (ta.size : Int) + (tb.size : Int) := (IntWalk.i64_left _).trans q1
  have q3 : decide ((200 : Int) < (ta.size : Int) + (tb.size : Int)) = true := decide_eq_true (by omega)
  have HB1 := Lib.hid hb1; have HX := Lib.hid hW1; have HW := Lib.hid hw; have HMC := Lib.hid hmc; have K1 := Lib.hid k1; have K2 := Lib.hid k2
  clear hts hm h300 hw hmc hb1 k1 k2 hW1 hab h200
  go_enter Tryz.func3, Tryz.ntmps3
  go_wp2_with fail
  rw [HX.out]
  ((with_reducible refine (HMC.out _ HB1.out).mono ?_); rintro _ w2 ⟨rfl, hb2⟩)
  have HB2 := Lib.hid (sg.Below.next HB1.out hb2 (Nat.le_refl _))
  have b1 : w2.cell? ⟨w.heap.size, 1, none⟩ = some (.string ta) := (K1.out.own hb2).cell 1
  have b3 : w2.cell? ⟨w.heap.size + 1, 1, none⟩ = some (.string tb) := (K2.out.own hb2).cell 1
  clear hb2
  go_wp2_with fail
  ((with_reducible refine (it.known_calls _ (HW.out.own HB2.out)).mono ?_); rintro _ w3 ⟨rfl, hb3⟩)
  have HB3 := Lib.hid (sg.Below.next HB2.out hb3 (Nat.le_refl _))
  clear hb3
  go_wp2_with fail
  go_ret
  exact ⟨rfl, HB3.out⟩
set_option maxRecDepth 100000 in
set_option maxHeartbeats 8000000 in
theorem walk_few (ao : Option Addr) (cap : Nat) (ts : List Tk) (ka kb : Int) (ta tb : ByteArray) (vc : Value) (s : ByteArray) (l : List Lx.Tok) (tm : List Tk) (er at' : Int) (x : Int) (w : World)
    (hts : TksAt w.heap.size w (.slice ao ts.length cap) ts) (hcap : ts.length ≤ cap) (hfit : ∀ t ∈ ts, Fits t) (hm : manyT ts ≤ 300) (h200 : ta.size + tb.size ≤ 200) (hw : OpsAt w)
    (hsc : ∀ w2, Below w.heap.size w w2 → Calls Tryz.prog 13 #[vc] w2 fun e w' => e = .returned (.string s) ∧ Below w2.heap.size w2 w')
    (hrt : ∀ w, Calls Tryz.prog 12 #[.string s] w fun e w' => ∃ v, e = .returned (.tuple #[v, .int .i64 er, .int .i64 at']) ∧ w'.ownsRow w.heap.size 24 2 v l.length (tokCells l) ∧ Below w.heap.size w w')
    (hl : Src l tm) (hsmall : l.length ≤ 1) :
    Calls Tryz.prog 3 #[.slice ao ts.length cap, .agg #[.int .i64 ka, .string ta], .agg #[.int .i64 kb, .string tb], vc, .int .u8 x] w fun e W' => e = .returned (.bool true) ∧ Below w.heap.size w W' := by
  have hmc := fun w2 (hb : Below w.heap.size w w2) => many5_calls (.slice ao ts.length cap) ts w2 w.heap.size (hts.below hb (Nat.le_refl _)) (by omega)
  rw [decide_eq_false (show ¬ (300 : Int) < (manyT ts : Int) by omega)] at hmc
  have hmt := manyT_eq ts
  have C1 := Lib.hid (fun w2 (hb : Below w.heap.size w w2) => asks_calls ao cap ts w2 ((hts.below hb (Nat.le_refl _)).mono hb.size) hcap hfit (by omega) (by omega) (hw.own hb))
  have C2 := Lib.hid (fun w2 (hb : Below w.heap.size w w2) => atight_calls (ka, ta) (kb, tb) w2 (hw.own hb) (by simp only; omega))
  obtain ⟨W1, hW1⟩ : ∃ W1, (w.alloc (.cells #[.int .i64 ka, .string ta] 24)).alloc (.cells #[.int .i64 kb, .string tb] 24) = W1 := ⟨_, rfl⟩
  obtain ⟨hb1, k1, k2⟩ := rtwo_box w ka kb ta tb W1 hW1
  have q1 := sumw (show ta.size + tb.size ≤ 1048576 by omega)
  have q2 : IntKind.i64.wrap ((ta.size : Int) + (tb.size : Int)) = (ta.size : Int) + (tb.size : Int) := (IntWalk.i64_left _).trans q1
  have q3 : decide ((200 : Int) < (ta.size : Int) + (tb.size : Int)) = false := decide_eq_false (by omega)
  have q4 : decide ((1 : Int) < (l.length : Int)) = false := decide_eq_false (by omega)
  have HB1 := Lib.hid hb1; have HX := Lib.hid hW1; have HW := Lib.hid hw; have HMC := Lib.hid hmc; have K1 := Lib.hid k1; have K2 := Lib.hid k2; have HS := Lib.hid hsc; have HR := Lib.hid hrt; have HL := Lib.hid hl
  clear hts hcap hfit hm hw hmc hb1 k1 k2 hW1 h200 hsc hrt hl hsmall hmt
  go_enter Tryz.func3, Tryz.ntmps3
  go_wp2_with fail
  rw [HX.out]
  ((with_reducible refine (HMC.out _ HB1.out).mono ?_); rintro _ w2 ⟨rfl, hb2⟩)
  have HB2 := Lib.hid (sg.Below.next HB1.out hb2 (Nat.le_refl _))
  have K12 := Lib.hid (K1.out.own hb2); have K22 := Lib.hid (K2.out.own hb2)
  have b1 : w2.cell? ⟨w.heap.size, 1, none⟩ = some (.string ta) := K12.out.cell 1
  have b3 : w2.cell? ⟨w.heap.size + 1, 1, none⟩ = some (.string tb) := K22.out.cell 1
  clear hb2
  go_wp2_with fail
  ((with_reducible refine (it.known_calls _ (HW.out.own HB2.out)).mono ?_); rintro _ w3 ⟨rfl, hb3⟩)
  have HB3 := Lib.hid (sg.Below.next HB2.out hb3 (Nat.le_refl _))
  have K13 := Lib.hid (K12.out.own hb3); have K23 := Lib.hid (K22.out.own hb3)
  clear hb3 b1 b3
  go_wp2_with fail
  ((with_reducible refine (HS.out _ HB3.out).mono ?_); rintro _ w4 ⟨rfl, hb4⟩)
  have HB4 := Lib.hid (sg.Below.next HB3.out hb4 (Nat.le_refl _))
  have K14 := Lib.hid (K13.out.own hb4); have K24 := Lib.hid (K23.out.own hb4)
  clear hb4
  go_wp2_with fail
  ((with_reducible refine (HR.out _).mono ?_); rintro _ w5 ⟨v5, rfl, ho5, hb5⟩)
  have HB5 := Lib.hid (sg.Below.next HB4.out hb5 (Nat.le_refl _))
  have K15 := Lib.hid (K14.out.own hb5); have K25 := Lib.hid (K24.out.own hb5)
  have htk := own_tks ho5 (by have := HL.out.len; unfold maxLen; omega)
  rw [HL.out.e] at htk
  obtain ⟨a5, c5, rfl, hc5⟩ := own_len ho5
  have HTK := Lib.hid htk; have HC5 := Lib.hid hc5
  clear hb5 ho5 htk hc5
  go_wp2_with fail
  ((with_reducible refine (C1.out _ HB5.out).mono ?_); rintro _ w6 ⟨rfl, hb6⟩)
  have HB6 := Lib.hid (sg.Below.next HB5.out hb6 (Nat.le_refl _))
  have K16 := Lib.hid (K15.out.own hb6); have K26 := Lib.hid (K25.out.own hb6)
  have hA := asks_calls _ c5 tm w6 (by rw [HL.out.n]; exact (HTK.out.below hb6 (Nat.le_refl _)).mono hb6.size) (by rw [HL.out.n]; exact HC5.out) HL.out.fit HL.out.sum (by have := HL.out.n; have := HL.out.len; omega) (HW.out.own HB6.out)
  rw [HL.out.n] at hA
  clear hb6
  go_wp2_with fail
  ((with_reducible refine hA.mono ?_); rintro _ w7 ⟨rfl, hb7⟩)
  have HB7 := Lib.hid (sg.Below.next HB6.out hb7 (Nat.le_refl _))
  have k17 := K16.out.own hb7
  have k27 := K26.out.own hb7
  have b0 : w7.cell? ⟨w.heap.size, 0, none⟩ = some (.int .i64 ka) := k17.cell 0
  have b1 : w7.cell? ⟨w.heap.size, 1, none⟩ = some (.string ta) := k17.cell 1
  have b2 : w7.cell? ⟨w.heap.size + 1, 0, none⟩ = some (.int .i64 kb) := k27.cell 0
  have b3 : w7.cell? ⟨w.heap.size + 1, 1, none⟩ = some (.string tb) := k27.cell 1
  clear hb7 hA k17 k27
  go_wp2_with fail
  ((with_reducible refine (C2.out _ HB7.out).mono ?_); rintro _ w8 ⟨rfl, hb8⟩)
  have HB8 := Lib.hid (sg.Below.next HB7.out hb8 (Nat.le_refl _))
  clear hb8
  go_wp2_with fail
  go_ret
  exact ⟨rfl, HB8.out⟩
set_option maxRecDepth 100000 in
set_option maxHeartbeats 8000000 in
theorem walk_two (ao : Option Addr) (cap : Nat) (ts : List Tk) (ka kb : Int) (ta tb : ByteArray) (vc : Value) (s : ByteArray) (l : List Lx.Tok) (tm : List Tk) (er at' : Int) (x : Int) (w : World)
    (hts : TksAt w.heap.size w (.slice ao ts.length cap) ts) (hcap : ts.length ≤ cap) (hfit : ∀ t ∈ ts, Fits t) (hm : manyT ts ≤ 300) (h200 : ta.size + tb.size ≤ 200) (hw : OpsAt w)
    (hsc : ∀ w2, Below w.heap.size w w2 → Calls Tryz.prog 13 #[vc] w2 fun e w' => e = .returned (.string s) ∧ Below w2.heap.size w2 w')
    (hrt : ∀ w, Calls Tryz.prog 12 #[.string s] w fun e w' => ∃ v, e = .returned (.tuple #[v, .int .i64 er, .int .i64 at']) ∧ w'.ownsRow w.heap.size 24 2 v l.length (tokCells l) ∧ Below w.heap.size w w')
    (hl : Src l tm) (hx0 : 0 ≤ x) (hx1 : x ≤ 255) (m i i2 : Nat) (hlm : l.length = m + 1) (hm1 : 1 ≤ m) (hi : x.toNat % m = i) (hi2 : i + 1 = i2) (p q : Tk) (hp : tm[i]? = some p) (hq : tm[i2]? = some q) :
    Calls Tryz.prog 3 #[.slice ao ts.length cap, .agg #[.int .i64 ka, .string ta], .agg #[.int .i64 kb, .string tb], vc, .int .u8 x] w fun e W' => e = .returned (.bool true) ∧ Below w.heap.size w W' := by
  have hmc := fun w2 (hb : Below w.heap.size w w2) => many5_calls (.slice ao ts.length cap) ts w2 w.heap.size (hts.below hb (Nat.le_refl _)) (by omega)
  rw [decide_eq_false (show ¬ (300 : Int) < (manyT ts : Int) by omega)] at hmc
  have hmt := manyT_eq ts
  have C1 := Lib.hid (fun w2 (hb : Below w.heap.size w w2) => asks_calls ao cap ts w2 ((hts.below hb (Nat.le_refl _)).mono hb.size) hcap hfit (by omega) (by omega) (hw.own hb))
  have C2 := Lib.hid (fun w2 (hb : Below w.heap.size w w2) => atight_calls (ka, ta) (kb, tb) w2 (hw.own hb) (by simp only; omega))
  obtain ⟨W1, hW1⟩ : ∃ W1, (w.alloc (.cells #[.int .i64 ka, .string ta] 24)).alloc (.cells #[.int .i64 kb, .string tb] 24) = W1 := ⟨_, rfl⟩
  obtain ⟨hb1, k1, k2⟩ := rtwo_box w ka kb ta tb W1 hW1
  have q3 : decide ((200 : Int) < (ta.size : Int) + (tb.size : Int)) = false := decide_eq_false (by omega)
  have q4 : decide ((1 : Int) < (l.length : Int)) = true := decide_eq_true (by omega)
  have him : i < m := by rw [← hi]; exact Nat.mod_lt _ (by omega)
  have hil : (i : Int) < (l.length : Int) := by omega
  have hi2l : (i2 : Int) < (l.length : Int) := by omega
  have hmz : ¬ ((m : Int) = 0) := by omega
  have hmz2 : ((m : Int) == 0) = false := beq_eq_false_iff_ne.2 (by omega)
  have hi0 : (0 : Int) ≤ (i : Int) := by omega
  have hi20 : (0 : Int) ≤ (i2 : Int) := by omega
  have HWR := Lib.hid (wraps hx0 hx1 hlm (by have := hl.len; omega) hm1 hi hi2)
  have hsp : p.2.size + q.2.size ≤ 1000 := by
    have h1 := sz_take tm i p hp
    have h2 := sz_take tm i2 q hq
    have h3 := hl.sum
    omega
  obtain ⟨kp, tp⟩ := p
  obtain ⟨kq, tq⟩ := q
  have C3 := Lib.hid (fun w2 (hb : Below w.heap.size w w2) => atight_calls (kp, tp) (kq, tq) w2 (hw.own hb) hsp)
  have C4 := Lib.hid (fun w2 (hb : Below w.heap.size w w2) => atight_calls (kq, tq) (kp, tp) w2 (hw.own hb) (by simp only at hsp ⊢; omega))
  have HP := Lib.hid hp; have HQ := Lib.hid hq
  have q1 := sumw (show ta.size + tb.size ≤ 1048576 by omega)
  have q2 : IntKind.i64.wrap ((ta.size : Int) + (tb.size : Int)) = (ta.size : Int) + (tb.size : Int) := (IntWalk.i64_left _).trans q1
  have HB1 := Lib.hid hb1; have HX := Lib.hid hW1; have HW := Lib.hid hw; have HMC := Lib.hid hmc; have K1 := Lib.hid k1; have K2 := Lib.hid k2; have HS := Lib.hid hsc; have HR := Lib.hid hrt; have HL := Lib.hid hl
  clear hts hcap hfit hm hw hmc hb1 k1 k2 hW1 h200 hsc hrt hl hmt hlm hi hi2 him hsp hp hq hx0 hx1 hm1
  go_enter Tryz.func3, Tryz.ntmps3
  go_wp2_with fail
  rw [HX.out]
  ((with_reducible refine (HMC.out _ HB1.out).mono ?_); rintro _ w2 ⟨rfl, hb2⟩)
  have HB2 := Lib.hid (sg.Below.next HB1.out hb2 (Nat.le_refl _))
  have K12 := Lib.hid (K1.out.own hb2); have K22 := Lib.hid (K2.out.own hb2)
  have b1 : w2.cell? ⟨w.heap.size, 1, none⟩ = some (.string ta) := K12.out.cell 1
  have b3 : w2.cell? ⟨w.heap.size + 1, 1, none⟩ = some (.string tb) := K22.out.cell 1
  clear hb2
  go_wp2_with fail
  ((with_reducible refine (it.known_calls _ (HW.out.own HB2.out)).mono ?_); rintro _ w3 ⟨rfl, hb3⟩)
  have HB3 := Lib.hid (sg.Below.next HB2.out hb3 (Nat.le_refl _))
  have K13 := Lib.hid (K12.out.own hb3); have K23 := Lib.hid (K22.out.own hb3)
  clear hb3 b1 b3 q1 q2 q3
  go_wp2_with fail
  ((with_reducible refine (HS.out _ HB3.out).mono ?_); rintro _ w4 ⟨rfl, hb4⟩)
  have HB4 := Lib.hid (sg.Below.next HB3.out hb4 (Nat.le_refl _))
  have K14 := Lib.hid (K13.out.own hb4); have K24 := Lib.hid (K23.out.own hb4)
  clear hb4
  go_wp2_with fail
  ((with_reducible refine (HR.out _).mono ?_); rintro _ w5 ⟨v5, rfl, ho5, hb5⟩)
  have HB5 := Lib.hid (sg.Below.next HB4.out hb5 (Nat.le_refl _))
  have K15 := Lib.hid (K14.out.own hb5); have K25 := Lib.hid (K24.out.own hb5)
  have htk := own_tks ho5 (by have := HL.out.len; unfold maxLen; omega)
  rw [HL.out.e] at htk
  obtain ⟨a5, c5, rfl, hc5⟩ := own_len ho5
  have HTK := Lib.hid htk; have HC5 := Lib.hid hc5
  obtain ⟨_, _, hv, _, hcc⟩ := id htk
  obtain ⟨g, off, e1, hg, c0, c1⟩ := hcc i _ HP.out
  obtain ⟨g', off', e2, hg', d0, d1⟩ := hcc i2 _ HQ.out
  simp only [Value.slice.injEq] at hv
  obtain ⟨hv1, hv2, hv3⟩ := hv
  rw [← hv1] at e1 e2
  subst e1
  obtain ⟨rfl, rfl⟩ : g = g' ∧ off = off' := by simpa using e2
  have i0 := fun y : ed.In w5 => y.cell c0
  have i1 := fun y : ed.In w5 => y.cell c1
  have i2' := fun y : ed.In w5 => y.cell d0
  have i3 := fun y : ed.In w5 => y.cell d1
  have t1 := fun y : ed.In w5 => C3.out y.u (HB5.out.trans (y.h.mono HB5.out.size))
  have t2 := fun y : ed.In w5 => C4.out y.u (HB5.out.trans (y.h.mono HB5.out.size))
  simp only at i0 i1 i2' i3 t1 t2
  obtain ⟨x1, x2, x3, x4, x5, x6, x7, x8, x9⟩ := HWR.out
  clear hb5 ho5 htk hc5 hcc hv1 hv2 hv3 e2 hg hg'
  go_wp2_with fail
  refine ed.wp_region_in (by kernel_rfl) (by kernel_rfl) ?_
  repeat (go_big_quiet_step (first | (go_at_call 14; first | with_reducible refine ed.Calls.in_of (t1 _) | with_reducible refine ed.Calls.in_of (t2 _))))
  with_reducible refine wpQuiet_nil ?_
  rintro _ ⟨y, rfl⟩
  have HY := Lib.hid y.h
  have HB5' := Lib.hid (HB5.out.trans (y.h.mono HB5.out.size))
  have K15' := Lib.hid (K15.out.own y.h); have K25' := Lib.hid (K25.out.own y.h)
  have HTK' := Lib.hid ((HTK.out.below y.h (Nat.le_refl _)).mono y.h.size)
  clear i0 i1 i2' i3 t1 t2 c0 c1 d0 d1
  go_wp2_with fail
  ((with_reducible refine (C1.out _ HB5'.out).mono ?_); rintro _ w6 ⟨rfl, hb6⟩)
  have HB6 := Lib.hid (sg.Below.next HB5'.out hb6 (Nat.le_refl _))
  have K16 := Lib.hid (K15'.out.own hb6); have K26 := Lib.hid (K25'.out.own hb6)
  have hA := asks_calls _ c5 tm w6 (by rw [HL.out.n]; exact (HTK'.out.below hb6 (Nat.le_refl _)).mono hb6.size) (by rw [HL.out.n]; exact HC5.out) HL.out.fit HL.out.sum (by have := HL.out.n; have := HL.out.len; omega) (HW.out.own HB6.out)
  rw [HL.out.n] at hA
  clear hb6
  go_wp2_with fail
  ((with_reducible refine hA.mono ?_); rintro _ w7 ⟨rfl, hb7⟩)
  have HB7 := Lib.hid (sg.Below.next HB6.out hb7 (Nat.le_refl _))
  have k17 := K16.out.own hb7
  have k27 := K26.out.own hb7
  have b0 : w7.cell? ⟨w.heap.size, 0, none⟩ = some (.int .i64 ka) := k17.cell 0
  have b1 : w7.cell? ⟨w.heap.size, 1, none⟩ = some (.string ta) := k17.cell 1
  have b2 : w7.cell? ⟨w.heap.size + 1, 0, none⟩ = some (.int .i64 kb) := k27.cell 0
  have b3 : w7.cell? ⟨w.heap.size + 1, 1, none⟩ = some (.string tb) := k27.cell 1
  clear hb7 hA k17 k27
  go_wp2_with fail
  ((with_reducible refine (C2.out _ HB7.out).mono ?_); rintro _ w8 ⟨rfl, hb8⟩)
  have HB8 := Lib.hid (sg.Below.next HB7.out hb8 (Nat.le_refl _))
  clear hb8
  go_wp2_with fail
  go_ret
  exact ⟨rfl, HB8.out⟩
theorem walk (ao : Option Addr) (cap : Nat) (ts : List Tk) (ka kb : Int) (ta tb : ByteArray) (vc : Value) (bs : List Int) (x : Int) (hx0 : 0 ≤ x) (hx1 : x ≤ 255) (w : World)
    (hts : TksAt w.heap.size w (.slice ao ts.length cap) ts) (hcap : ts.length ≤ cap) (hwf : ∀ t ∈ ts, (Lit.int .i64 t.1).wf = true) (hm : manyT ts ≤ 1048576) (hab : ta.size + tb.size ≤ 1048576) (hv : law.BytesAt w vc bs) (hw : OpsAt w) :
    Calls Tryz.prog 3 #[.slice ao ts.length cap, .agg #[.int .i64 ka, .string ta], .agg #[.int .i64 kb, .string tb], vc, .int .u8 x] w fun e W' => e = .returned (.bool true) ∧ Below w.heap.size w W' := by
  by_cases h300 : (300 : Int) < (manyT ts : Int)
  · exact walk_many _ vc ts ka kb ta tb x w hts hm h300 hw
  by_cases h200 : 200 < ta.size + tb.size
  · exact walk_ab _ vc ts ka kb ta tb x w hts hm h300 hab h200 hw
  have hmt := manyT_eq ts
  have hfit : ∀ t ∈ ts, Fits t := fun t ht => ⟨hwf t ht, by
    obtain ⟨i, hi⟩ := List.getElem?_of_mem ht
    have := sz_take ts i t hi
    unfold maxLen
    omega⟩
  obtain ⟨s, hs⟩ : ∃ s, srcF bs = s := ⟨_, rfl⟩
  have hss := srcF_size bs
  have hsc := fun w2 (hb : Below w.heap.size w w2) => source_calls vc bs w2 (hv.below hb)
  rw [hs] at hss
  simp only [hs] at hsc
  obtain ⟨l, e, at', he⟩ : ∃ l e at', tokensF s.data.toList (utf.checkF s) = (l, e, at') := ⟨_, _, _, rfl⟩
  have hrt := fun w => rtokens_as s (by omega) w l e at' he
  have hS := Src.of (by omega) he
  by_cases h1 : l.length ≤ 1
  · exact walk_few ao cap ts ka kb ta tb vc s l _ e at' x w hts hcap hfit (by omega) (by omega) hw hsc hrt hS h1
  · obtain ⟨m, hlm⟩ : ∃ m, l.length = m + 1 := ⟨l.length - 1, by omega⟩
    have him : x.toNat % m < m := Nat.mod_lt _ (by omega)
    obtain ⟨p, hp⟩ : ∃ p, (l.map asTk)[x.toNat % m]? = some p := ⟨_, List.getElem?_eq_getElem (by rw [List.length_map]; omega)⟩
    obtain ⟨q, hq⟩ : ∃ q, (l.map asTk)[x.toNat % m + 1]? = some q := ⟨_, List.getElem?_eq_getElem (by rw [List.length_map]; omega)⟩
    exact walk_two ao cap ts ka kb ta tb vc s l _ e at' x w hts hcap hfit (by omega) (by omega) hw hsc hrt hS hx0 hx1 m _ _ hlm (by omega) rfl rfl p q hp hq

theorem reads (os : Os) {H : Type} (enc : TypeId × Value → H) : ∃ places, DataW.whole enc Tryz.prog ((World.laidAll Tryz.prog os lx.laid).forCall (fun _ _ => 0) ⟨#[], #[.slice none 0 0, .agg #[.int .i64 0, .string ⟨#[]⟩], .agg #[.int .i64 0, .string ⟨#[]⟩], .slice none 0 0, .int .u8 0], []⟩).memory Tryz.f3.params.toList Rows.itemsAsksSpec.vars false (#[.slice none 0 0, .agg #[.int .i64 0, .string ⟨#[]⟩], .agg #[.int .i64 0, .string ⟨#[]⟩], .slice none 0 0, .int .u8 0] : Array Value).toList 8 = some ([.nil, .agg [.lit (.int .i64 0), .lit (.string [])], .agg [.lit (.int .i64 0), .lit (.string [])], .nil, .lit (.int .u8 0)], [], places) :=
  ⟨[], by kernel_rfl⟩

set_option maxRecDepth 100000 in
theorem lifted (os : Os) (started : os.Started) (H : Type) (enc : TypeId × Value → H) (F : Stop.Interp) :
    ReturnsInHanded {} Tryz.checked os 3 .any ((Rows.OpenSpec.upto Rows.itemsAsksSpec).preRow enc Tryz.prog Tryz.f3 Rows.itemsAsksUptoRow.domain false Rows.itemsAsksUptoRow.laid) (((Rows.OpenSpec.upto Rows.itemsAsksSpec).at F).post enc Tryz.prog Tryz.f3 false true false false) := by
  obtain ⟨places, hx⟩ := reads os enc
  refine returnsInHanded_of_row (C := Tryz.checked) (s := Rows.OpenSpec.upto Rows.itemsAsksSpec) law.own started (by kernel_rfl) Tryz.func3
    (witness_row_at (enc := enc) (C := Tryz.checked) false (World.laidAll Tryz.prog os lx.laid) #[.slice none 0 0, .agg #[.int .i64 0, .string ⟨#[]⟩], .agg #[.int .i64 0, .string ⟨#[]⟩], .slice none 0 0, .int .u8 0] (World.laidAll_os _ _ _) (by kernel_rfl) (by kernel_rfl) (by kernel_rfl)
      (OpenSpec.preRow_of_cond 8 hx (by kernel_rfl) (fun k hk => by cases hk; kernel_rfl) (by kernel_rfl) (lx.laid_met os _))) ?_
  intro W base args ds gs before hval0 hW _ hcond0 _ hL _ _
  have hcond := hcond0 _ rfl
  have hOps := lx.ops_of_laid hL
  have hval : ∀ (j : Nat) t v, Tryz.f3.params[j]? = some t → args[j]? = some v → Value.okWide Tryz.prog W .any base t v := hval0
  have hW' := hW
  obtain ⟨p, q, hA0, hV, rfl, _, _⟩ := hW
  have hA : DataW.TrodAll enc Tryz.prog W 0 (fun _ => true) true Tryz.f3.params.toList args.toList ds p := hA0
  rw [Tryz.params3] at hA hval
  obtain ⟨v0, vs0, d0, ds0, p0, q0, hargs, rfl, rfl, h0, r0⟩ := trodAll_cons hA
  obtain ⟨v1, vs1, d1, ds1, p1, q1, rfl, rfl, rfl, h1, r1⟩ := trodAll_cons r0
  obtain ⟨v2, vs2, d2, ds2, p2, q2, rfl, rfl, rfl, h2, r2⟩ := trodAll_cons r1
  obtain ⟨v3, vs3, d3, ds3, p3, q3, rfl, rfl, rfl, h3, r3⟩ := trodAll_cons r2
  obtain ⟨v4, vs4, d4, ds4, p4, q4, rfl, rfl, rfl, h4, r4⟩ := trodAll_cons r3
  obtain ⟨rfl, rfl, rfl⟩ := trodAll_nil r4
  obtain rfl : args = #[v0, v1, v2, v3, v4] := by cases args; simp_all
  obtain ⟨rfl, rfl⟩ := trodVars_none hV
  obtain ⟨ao, cap, es, rfl, hcap, hes, hwf, hbk⟩ := it.open_row (hval 0 22 v0 rfl rfl) h0
  obtain ⟨ka, ta, rfl, hka, hta⟩ := it.open_tok (hval 1 24 v1 rfl rfl) h1
  obtain ⟨kb, tb, rfl, hkb, htb⟩ := it.open_tok (hval 2 24 v2 rfl rfl) h2
  obtain ⟨bs, hbs⟩ := law.open_bytes (hval 3 25 v3 rfl rfl) h3
  obtain ⟨x, rfl, rfl, rfl, wx⟩ := open_int Tryz.underlying5 (hval 4 5 v4 rfl rfl) h4
  have hx := law.u8_wf wx
  obtain ⟨hm, hab⟩ := small_both hbk hta htb hcond
  clear hL hcond0
  refine (walk ao cap es ka kb ta tb v3 bs x hx.1 hx.2 W hes hcap hwf hm hab hbs hOps).mono fun e W' ⟨he, hb⟩ => ⟨_, he, ?_⟩
  exact law.law_post rfl hW' rfl (by kernel_rfl) (by kernel_rfl) hb


theorem holds : Rows.ItemsAsksUptoSaid :=
  OpenClaim.holds_of_cond 3 Tryz.f3 rfl rfl rfl rfl rfl rfl rfl ⟨rfl, rfl, rfl, rfl, rfl⟩ rfl rfl rfl rfl rfl (by kernel_rfl) Tryz.func3 (by kernel_rfl)
    (of_decide_eq_true (by kernel_rfl)) (by unfold Func.isWrapper; first | (rw [if_pos (by decide +kernel)]; kernel_rfl) | (rw [if_neg (by decide +kernel)]; exact ⟨rfl, rfl⟩))
    (fun os started H enc _ F => by rw [OpenClaim.pre_eq_preRow]; exact lifted os started H enc F)

/-- The tied card of ItemsAsks, of arguments that are not too great for any machine. -/
theorem card : Rows.ItemsAsksUptoCardSaid :=
  Claim7.holds_tied_plain_at .later [] _ _ _ _ holds (fun _ h => by cases h) (by kernel_rfl) (fun _ h => by cases h) itemsAsksUpto_row_tie rfl ⟨rfl, rfl⟩ (by kernel_rfl) rfl
    (fun f fn hf hfn => by
      obtain rfl : f = 3 := Option.some.inj ((show Tryz.prog.funcNamed "subeditor/subeditorlaw05.ItemsAsks" = some 3 by kernel_rfl).symm.trans hf) |>.symm
      obtain rfl : fn = Tryz.f3 := (Option.some.inj (Tryz.func3.symm.trans hfn)).symm
      exact ⟨by kernel_rfl, fun j t ht => by
        rw [Tryz.params3] at ht
        have hm := List.mem_toArray.1 (Array.mem_of_getElem? ht)
        have hall : (Tryz.f3.params.toList.all fun u => !Tryz.prog.wantsStandIn u) = true := by kernel_rfl
        rw [show Tryz.f3.params.toList = _ from congrArg Array.toList Tryz.params3] at hall
        exact (show Tryz.prog.wantsStandIn t = false by simpa using List.all_eq_true.1 hall t hm)⟩)
    (by kernel_rfl)
end Go.Proofs.YtmoamfcaokefiaaGreatDoor.itemsAsks
