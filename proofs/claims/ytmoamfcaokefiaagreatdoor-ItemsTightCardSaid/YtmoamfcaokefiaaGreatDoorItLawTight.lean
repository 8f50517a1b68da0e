/-
  subeditorlaw05.ItemsTight: for every input it returns true, and the arguments read as they did. No condition.
-/
import Derived.Test.YtmoamfcaokefiaaGreatDoorItProg
import Derived.Test.YtmoamfcaokefiaaGreatDoorLxSource
import Derived.Test.YtmoamfcaokefiaaGreatDoorCards
import Derived.Test.YtmoamfcaokefiaaGreatDoorTie
import Derived.SevenTiedAt
namespace Go.Proofs.YtmoamfcaokefiaaGreatDoor.itemsTight
open Go.RowKit Go.ChangeShapes Go.WideShapes Go.ChangeAt Go.ChangeMaps
open sg (OpsAt lst_len)
open lx
set_option linter.unusedVariables false

open it
theorem wraps {x : Int} {m n i i2 : Nat} (hx0 : 0 ≤ x) (hx1 : x ≤ 255) (hm : n = m + 1) (hmm : m ≤ 65536) (hm1 : 1 ≤ m) (hi : x.toNat % m = i) (hi2 : i + 1 = i2) :
    wrap64 x = x ∧ IntKind.i64.wrap x = x ∧ wrap64 ((n : Int) - 1) = (m : Int) ∧ IntKind.i64.wrap ((n : Int) - 1) = (m : Int) ∧ Int.tmod x (m : Int) = (i : Int) ∧ wrap64 (i : Int) = (i : Int) ∧ IntKind.i64.wrap (i : Int) = (i : Int) ∧ wrap64 ((i : Int) + 1) = (i2 : Int) ∧ IntKind.i64.wrap ((i : Int) + 1) = (i2 : Int) := by
  have him : i < m := by rw [← hi]; exact Nat.mod_lt _ (by omega)
  have h1 : wrap64 x = x := IntWalk.wrap64_in _ (by omega)
  have h2 : wrap64 ((n : Int) - 1) = (m : Int) := (IntWalk.wrap64_in _ (by omega)).trans (by omega)
  have h3 : wrap64 (i : Int) = (i : Int) := IntWalk.wrap64_in _ (by omega)
  have h4 : wrap64 ((i : Int) + 1) = (i2 : Int) := (IntWalk.wrap64_in _ (by omega)).trans (by omega)
  have h5 : Int.tmod x (m : Int) = (i : Int) := by
    obtain ⟨y, rfl⟩ : ∃ y : Nat, x = (y : Int) := ⟨x.toNat, by omega⟩
    rw [Int.tmod_eq_emod_of_nonneg (by omega), ← hi]
    simp
  exact ⟨h1, (IntWalk.i64_left _).trans h1, h2, (IntWalk.i64_left _).trans h2, h5, h3, (IntWalk.i64_left _).trans h3, h4, (IntWalk.i64_left _).trans h4⟩
theorem two_box (w3 : World) (ka kb : Int) (tA tB : ByteArray) (w4 : World) (hw4 : (w3.alloc (.cells #[.int .i64 ka, .string tA] 24)).alloc (.cells #[.int .i64 kb, .string tB] 24) = w4) :
    Below w3.heap.size w3 w4 ∧ sx.Blk w4 w3.heap.size 24 #[.int .i64 ka, .string tA] ∧ sx.Blk w4 (w3.heap.size + 1) 24 #[.int .i64 kb, .string tB] := by
  subst hw4
  refine ⟨((Below.refl _ w3).alloc (Nat.le_refl _) _).alloc (by simp) _, (sx.Blk.new w3 _ _).alloc _, ?_⟩
  have := sx.Blk.new (w3.alloc (.cells #[.int .i64 ka, .string tA] 24)) 24 #[.int .i64 kb, .string tB]
  simpa using this
theorem txt (l : List UInt8) : ((⟨l.toArray⟩ : ByteArray).toList == [58]) = decide (l = [58]) := by
  rw [toList_eq, Bool.eq_iff_iff]; simp
set_option maxRecDepth 100000 in
set_option maxHeartbeats 8000000 in
theorem core_s1 (v : Value) (s : ByteArray) (l : List Lx.Tok) (at' x : Int) (hx0 : 0 ≤ x) (hx1 : x ≤ 255) (m i : Nat) (a b : Lx.Tok) (w : World) (hw : OpsAt w)
    (hsc : Calls Tryz.prog 13 #[v] w fun e w' => e = .returned (.string s) ∧ Below w.heap.size w w')
    (hrt : ∀ w, Calls Tryz.prog 12 #[.string s] w fun e w' => ∃ v, e = .returned (.tuple #[v, .int .i64 0, .int .i64 at']) ∧ w'.ownsRow w.heap.size 24 2 v l.length (tokCells l) ∧ Below w.heap.size w w')
    (hm : l.length = m + 1) (hmm : m ≤ 65536) (hm1 : 1 ≤ m) (hi : x.toNat % m = i) (ha : l[i]? = some a) (hb : l[i + 1]? = some b) (la : a.2.length ≤ 1000) (lb : b.2.length ≤ 1000)
    (hmath : tightB (asTk a) (asTk b) = !Lx.spaceT a b) (hsp : Lx.spaceT a b = true) (h1 : a.1 < 3) :
    Calls Tryz.prog 6 #[v, .int .u8 x] w fun e W' => e = .returned (.bool true) ∧ Below w.heap.size w W' := by
  have HW := Lib.hid hw
  rw [hsp] at hmath
  have him : i < m := by rw [← hi]; exact Nat.mod_lt _ (by omega)
  obtain ⟨i2, hi2⟩ : ∃ i2, i + 1 = i2 := ⟨_, rfl⟩
  rw [hi2] at hb
  have e2 : decide ((l.length : Int) < 2) = false := decide_eq_false (by omega)
  have hlm : l.length ≤ maxLen := by unfold maxLen; omega
  have HA := Lib.hid ha; have HB := Lib.hid hb; have HI := Lib.hid hi; have HMM := Lib.hid hm; have HI2 := Lib.hid hi2
  have hil : (i : Int) < (l.length : Int) := by omega
  have hi2l : (i2 : Int) < (l.length : Int) := by omega
  have hmz : ¬ ((m : Int) = 0) := by omega
  have hmz2 : ((m : Int) == 0) = false := beq_eq_false_iff_ne.2 (by omega)
  have hi0 : (0 : Int) ≤ (i : Int) := by omega
  have hi20 : (0 : Int) ≤ (i2 : Int) := by omega
  have p1 : decide (a.1 < 3) = true := decide_eq_true (by omega)
  obtain ⟨tA, hTA⟩ : ∃ t, (⟨a.2.toArray⟩ : ByteArray) = t := ⟨_, rfl⟩
  obtain ⟨tB, hTB⟩ : ∃ t, (⟨b.2.toArray⟩ : ByteArray) = t := ⟨_, rfl⟩
  have hmm2 : tightB (a.1, tA) (b.1, tB) = !true := by rw [← hTA, ← hTB]; exact hmath
  have HM := Lib.hid hmm2
  have HX := Lib.hid (wraps hx0 hx1 hm hmm hm1 hi hi2)
  have hsz : tA.size + tB.size ≤ 140737488351232 := by
    have h1 : tA.size = a.2.length := by rw [← hTA, ← lst_len]
    have h2 : tB.size = b.2.length := by rw [← hTB, ← lst_len]
    omega
  have HTA := Lib.hid hTA; have HTB := Lib.hid hTB
  clear hmath hmm2 hTA hTB hsp ha hb hi hw hi2 la lb hm h1
  go_enter Tryz.func6, Tryz.ntmps6
  go_wp2_with fail
  ((with_reducible refine hsc.mono ?_); rintro _ w2 ⟨rfl, hb2⟩)
  have HB2 := Lib.hid hb2
  clear hb2
  go_wp2_with fail
  ((with_reducible refine (hrt _).mono ?_); rintro _ w3 ⟨v3, rfl, ho3, hb3⟩)
  have HB3 := Lib.hid (sg.Below.next HB2.out hb3 (Nat.le_refl _))
  obtain ⟨a3, c3, hv3, hc3⟩ := ownsRow_toks ho3
  subst hv3
  obtain ⟨g, hg, hgl, c0, c1⟩ := hc3 i a HA.out
  subst hg
  obtain ⟨g', hgg, _, d0, d1⟩ := hc3 i2 b HB.out
  cases hgg
  rw [HTA.out] at c1
  rw [HTB.out] at d1
  have HC0 := Lib.hid c0; have HC1 := Lib.hid c1; have HD0 := Lib.hid d0; have HD1 := Lib.hid d1
  clear hb3 ho3 hc3
  obtain ⟨x1, x2, x3, x4, x5, x6, x7, x8, x9⟩ := HX.out
  obtain ⟨w4, hw4⟩ : ∃ w4, (w3.alloc (.cells #[.int .i64 a.1, .string tA] 24)).alloc (.cells #[.int .i64 b.1, .string tB] 24) = w4 := ⟨_, rfl⟩
  obtain ⟨hb4, k0, k1⟩ := two_box w3 a.1 b.1 tA tB w4 hw4
  have e0 : w4.cell? ⟨w3.heap.size, 0, none⟩ = some (.int .i64 a.1) := k0.cell 0
  have e1 : w4.cell? ⟨w3.heap.size, 1, none⟩ = some (.string tA) := k0.cell 1
  have e3 : w4.cell? ⟨w3.heap.size + 1, 0, none⟩ = some (.int .i64 b.1) := k1.cell 0
  have e4 : w4.cell? ⟨w3.heap.size + 1, 1, none⟩ = some (.string tB) := k1.cell 1
  have hdd0 : (w3.alloc (.cells #[.int .i64 a.1, .string tA] 24)).cell? ⟨g, i2 * 2, none⟩ = some (.int .i64 b.1) := Lib.cell?_alloc_some _ d0
  have hdd1 : (w3.alloc (.cells #[.int .i64 a.1, .string tA] 24)).cell? ⟨g, i2 * 2 + 1, none⟩ = some (.string tB) := Lib.cell?_alloc_some _ d1
  have K0 := Lib.hid k0; have K1 := Lib.hid k1; have HB4 := Lib.hid (sg.Below.next HB3.out hb4 (Nat.le_refl _))
  clear hb4 k0 k1
  go_wp2_with fail
  ((with_reducible refine (it.known_calls _ (HW.out.own HB4.out)).mono ?_); rintro _ w5 ⟨rfl, hb5⟩)
  have k05 := K0.out.own hb5
  have k15 := K1.out.own hb5
  have f0 : w5.cell? ⟨w3.heap.size, 0, none⟩ = some (.int .i64 a.1) := k05.cell 0
  have f1 : w5.cell? ⟨w3.heap.size, 1, none⟩ = some (.string tA) := k05.cell 1
  have f3 : w5.cell? ⟨w3.heap.size + 1, 0, none⟩ = some (.int .i64 b.1) := k15.cell 0
  have f4 : w5.cell? ⟨w3.heap.size + 1, 1, none⟩ = some (.string tB) := k15.cell 1
  have HB5 := Lib.hid (sg.Below.next HB4.out hb5 (Nat.le_refl _))
  have htc := tight_calls (a.1, tA) (b.1, tB) w5 (HW.out.own HB5.out) hsz
  rw [HM.out] at htc
  clear hb5 k05 k15 e0 e1 e3 e4 hdd0 hdd1 x1 x2 x3 x4 x5 x6 x7 x8 x9 c0 c1 d0 d1 hw4
  go_wp2_with fail
  ((with_reducible refine htc.mono ?_); rintro _ w6 ⟨rfl, hb6⟩)
  have HB6 := Lib.hid (sg.Below.next HB5.out hb6 (Nat.le_refl _))
  clear hb6
  go_wp2_with fail
  go_ret
  exact ⟨rfl, HB6.out⟩
set_option maxRecDepth 100000 in
set_option maxHeartbeats 8000000 in
theorem core_s2 (v : Value) (s : ByteArray) (l : List Lx.Tok) (at' x : Int) (hx0 : 0 ≤ x) (hx1 : x ≤ 255) (m i : Nat) (a b : Lx.Tok) (w : World) (hw : OpsAt w)
    (hsc : Calls Tryz.prog 13 #[v] w fun e w' => e = .returned (.string s) ∧ Below w.heap.size w w')
    (hrt : ∀ w, Calls Tryz.prog 12 #[.string s] w fun e w' => ∃ v, e = .returned (.tuple #[v, .int .i64 0, .int .i64 at']) ∧ w'.ownsRow w.heap.size 24 2 v l.length (tokCells l) ∧ Below w.heap.size w w')
    (hm : l.length = m + 1) (hmm : m ≤ 65536) (hm1 : 1 ≤ m) (hi : x.toNat % m = i) (ha : l[i]? = some a) (hb : l[i + 1]? = some b) (la : a.2.length ≤ 1000) (lb : b.2.length ≤ 1000)
    (hmath : tightB (asTk a) (asTk b) = !Lx.spaceT a b) (hsp : Lx.spaceT a b = true) (h1 : ¬ a.1 < 3) (h2 : b.1 < 3) :
    Calls Tryz.prog 6 #[v, .int .u8 x] w fun e W' => e = .returned (.bool true) ∧ Below w.heap.size w W' := by
  have HW := Lib.hid hw
  rw [hsp] at hmath
  have him : i < m := by rw [← hi]; exact Nat.mod_lt _ (by omega)
  obtain ⟨i2, hi2⟩ : ∃ i2, i + 1 = i2 := ⟨_, rfl⟩
  rw [hi2] at hb
  have e2 : decide ((l.length : Int) < 2) = false := decide_eq_false (by omega)
  have hlm : l.length ≤ maxLen := by unfold maxLen; omega
  have HA := Lib.hid ha; have HB := Lib.hid hb; have HI := Lib.hid hi; have HMM := Lib.hid hm; have HI2 := Lib.hid hi2
  have hil : (i : Int) < (l.length : Int) := by omega
  have hi2l : (i2 : Int) < (l.length : Int) := by omega
  have hmz : ¬ ((m : Int) = 0) := by omega
  have hmz2 : ((m : Int) == 0) = false := beq_eq_false_iff_ne.2 (by omega)
  have hi0 : (0 : Int) ≤ (i : Int) := by omega
  have hi20 : (0 : Int) ≤ (i2 : Int) := by omega
  have p1 : decide (a.1 < 3) = false := decide_eq_false (by omega)
  have p2 : decide (b.1 < 3) = true := decide_eq_true (by omega)
  obtain ⟨tA, hTA⟩ : ∃ t, (⟨a.2.toArray⟩ : ByteArray) = t := ⟨_, rfl⟩
  obtain ⟨tB, hTB⟩ : ∃ t, (⟨b.2.toArray⟩ : ByteArray) = t := ⟨_, rfl⟩
  have hmm2 : tightB (a.1, tA) (b.1, tB) = !true := by rw [← hTA, ← hTB]; exact hmath
  have HM := Lib.hid hmm2
  have HX := Lib.hid (wraps hx0 hx1 hm hmm hm1 hi hi2)
  have hsz : tA.size + tB.size ≤ 140737488351232 := by
    have h1 : tA.size = a.2.length := by rw [← hTA, ← lst_len]
    have h2 : tB.size = b.2.length := by rw [← hTB, ← lst_len]
    omega
  have HTA := Lib.hid hTA; have HTB := Lib.hid hTB
  clear hmath hmm2 hTA hTB hsp ha hb hi hw hi2 la lb hm h1 h2
  go_enter Tryz.func6, Tryz.ntmps6
  go_wp2_with fail
  ((with_reducible refine hsc.mono ?_); rintro _ w2 ⟨rfl, hb2⟩)
  have HB2 := Lib.hid hb2
  clear hb2
  go_wp2_with fail
  ((with_reducible refine (hrt _).mono ?_); rintro _ w3 ⟨v3, rfl, ho3, hb3⟩)
  have HB3 := Lib.hid (sg.Below.next HB2.out hb3 (Nat.le_refl _))
  obtain ⟨a3, c3, hv3, hc3⟩ := ownsRow_toks ho3
  subst hv3
  obtain ⟨g, hg, hgl, c0, c1⟩ := hc3 i a HA.out
  subst hg
  obtain ⟨g', hgg, _, d0, d1⟩ := hc3 i2 b HB.out
  cases hgg
  rw [HTA.out] at c1
  rw [HTB.out] at d1
  have HC0 := Lib.hid c0; have HC1 := Lib.hid c1; have HD0 := Lib.hid d0; have HD1 := Lib.hid d1
  clear hb3 ho3 hc3
  obtain ⟨x1, x2, x3, x4, x5, x6, x7, x8, x9⟩ := HX.out
  obtain ⟨w4, hw4⟩ : ∃ w4, (w3.alloc (.cells #[.int .i64 a.1, .string tA] 24)).alloc (.cells #[.int .i64 b.1, .string tB] 24) = w4 := ⟨_, rfl⟩
  obtain ⟨hb4, k0, k1⟩ := two_box w3 a.1 b.1 tA tB w4 hw4
  have e0 : w4.cell? ⟨w3.heap.size, 0, none⟩ = some (.int .i64 a.1) := k0.cell 0
  have e1 : w4.cell? ⟨w3.heap.size, 1, none⟩ = some (.string tA) := k0.cell 1
  have e3 : w4.cell? ⟨w3.heap.size + 1, 0, none⟩ = some (.int .i64 b.1) := k1.cell 0
  have e4 : w4.cell? ⟨w3.heap.size + 1, 1, none⟩ = some (.string tB) := k1.cell 1
  have hdd0 : (w3.alloc (.cells #[.int .i64 a.1, .string tA] 24)).cell? ⟨g, i2 * 2, none⟩ = some (.int .i64 b.1) := Lib.cell?_alloc_some _ d0
  have hdd1 : (w3.alloc (.cells #[.int .i64 a.1, .string tA] 24)).cell? ⟨g, i2 * 2 + 1, none⟩ = some (.string tB) := Lib.cell?_alloc_some _ d1
  have K0 := Lib.hid k0; have K1 := Lib.hid k1; have HB4 := Lib.hid (sg.Below.next HB3.out hb4 (Nat.le_refl _))
  clear hb4 k0 k1
  go_wp2_with fail
  ((with_reducible refine (it.known_calls _ (HW.out.own HB4.out)).mono ?_); rintro _ w5 ⟨rfl, hb5⟩)
  have k05 := K0.out.own hb5
  have k15 := K1.out.own hb5
  have f0 : w5.cell? ⟨w3.heap.size, 0, none⟩ = some (.int .i64 a.1) := k05.cell 0
  have f1 : w5.cell? ⟨w3.heap.size, 1, none⟩ = some (.string tA) := k05.cell 1
  have f3 : w5.cell? ⟨w3.heap.size + 1, 0, none⟩ = some (.int .i64 b.1) := k15.cell 0
  have f4 : w5.cell? ⟨w3.heap.size + 1, 1, none⟩ = some (.string tB) := k15.cell 1
  have HB5 := Lib.hid (sg.Below.next HB4.out hb5 (Nat.le_refl _))
  have htc := tight_calls (a.1, tA) (b.1, tB) w5 (HW.out.own HB5.out) hsz
  rw [HM.out] at htc
  clear hb5 k05 k15 e0 e1 e3 e4 hdd0 hdd1 x1 x2 x3 x4 x5 x6 x7 x8 x9 c0 c1 d0 d1 hw4
  go_wp2_with fail
  ((with_reducible refine htc.mono ?_); rintro _ w6 ⟨rfl, hb6⟩)
  have HB6 := Lib.hid (sg.Below.next HB5.out hb6 (Nat.le_refl _))
  clear hb6
  go_wp2_with fail
  go_ret
  exact ⟨rfl, HB6.out⟩
set_option maxRecDepth 100000 in
set_option maxHeartbeats 8000000 in
theorem core_s3 (v : Value) (s : ByteArray) (l : List Lx.Tok) (at' x : Int) (hx0 : 0 ≤ x) (hx1 : x ≤ 255) (m i : Nat) (a b : Lx.Tok) (w : World) (hw : OpsAt w)
    (hsc : Calls Tryz.prog 13 #[v] w fun e w' => e = .returned (.string s) ∧ Below w.heap.size w w')
    (hrt : ∀ w, Calls Tryz.prog 12 #[.string s] w fun e w' => ∃ v, e = .returned (.tuple #[v, .int .i64 0, .int .i64 at']) ∧ w'.ownsRow w.heap.size 24 2 v l.length (tokCells l) ∧ Below w.heap.size w w')
    (hm : l.length = m + 1) (hmm : m ≤ 65536) (hm1 : 1 ≤ m) (hi : x.toNat % m = i) (ha : l[i]? = some a) (hb : l[i + 1]? = some b) (la : a.2.length ≤ 1000) (lb : b.2.length ≤ 1000)
    (hmath : tightB (asTk a) (asTk b) = !Lx.spaceT a b) (hsp : Lx.spaceT a b = true) (h1 : ¬ a.1 < 3) (h2 : ¬ b.1 < 3) (h6 : a.1 = 6) (k6 : b.1 = 6) :
    Calls Tryz.prog 6 #[v, .int .u8 x] w fun e W' => e = .returned (.bool true) ∧ Below w.heap.size w W' := by
  have HW := Lib.hid hw
  rw [hsp] at hmath
  have him : i < m := by rw [← hi]; exact Nat.mod_lt _ (by omega)
  obtain ⟨i2, hi2⟩ : ∃ i2, i + 1 = i2 := ⟨_, rfl⟩
  rw [hi2] at hb
  have e2 : decide ((l.length : Int) < 2) = false := decide_eq_false (by omega)
  have hlm : l.length ≤ maxLen := by unfold maxLen; omega
  have HA := Lib.hid ha; have HB := Lib.hid hb; have HI := Lib.hid hi; have HMM := Lib.hid hm; have HI2 := Lib.hid hi2
  have hil : (i : Int) < (l.length : Int) := by omega
  have hi2l : (i2 : Int) < (l.length : Int) := by omega
  have hmz : ¬ ((m : Int) = 0) := by omega
  have hmz2 : ((m : Int) == 0) = false := beq_eq_false_iff_ne.2 (by omega)
  have hi0 : (0 : Int) ≤ (i : Int) := by omega
  have hi20 : (0 : Int) ≤ (i2 : Int) := by omega
  have p1 : decide (a.1 < 3) = false := decide_eq_false (by omega)
  have p2 : decide (b.1 < 3) = false := decide_eq_false (by omega)
  have p3 : (a.1 == 6) = true := beq_iff_eq.2 (by omega)
  have p4 : (b.1 == 6) = true := beq_iff_eq.2 (by omega)
  obtain ⟨tA, hTA⟩ : ∃ t, (⟨a.2.toArray⟩ : ByteArray) = t := ⟨_, rfl⟩
  obtain ⟨tB, hTB⟩ : ∃ t, (⟨b.2.toArray⟩ : ByteArray) = t := ⟨_, rfl⟩
  have hmm2 : tightB (a.1, tA) (b.1, tB) = !true := by rw [← hTA, ← hTB]; exact hmath
  have HM := Lib.hid hmm2
  have HX := Lib.hid (wraps hx0 hx1 hm hmm hm1 hi hi2)
  have hsz : tA.size + tB.size ≤ 140737488351232 := by
    have h1 : tA.size = a.2.length := by rw [← hTA, ← lst_len]
    have h2 : tB.size = b.2.length := by rw [← hTB, ← lst_len]
    omega
  have HTA := Lib.hid hTA; have HTB := Lib.hid hTB
  clear hmath hmm2 hTA hTB hsp ha hb hi hw hi2 la lb hm h1 h2 h6 k6
  go_enter Tryz.func6, Tryz.ntmps6
  go_wp2_with fail
  ((with_reducible refine hsc.mono ?_); rintro _ w2 ⟨rfl, hb2⟩)
  have HB2 := Lib.hid hb2
  clear hb2
  go_wp2_with fail
  ((with_reducible refine (hrt _).mono ?_); rintro _ w3 ⟨v3, rfl, ho3, hb3⟩)
  have HB3 := Lib.hid (sg.Below.next HB2.out hb3 (Nat.le_refl _))
  obtain ⟨a3, c3, hv3, hc3⟩ := ownsRow_toks ho3
  subst hv3
  obtain ⟨g, hg, hgl, c0, c1⟩ := hc3 i a HA.out
  subst hg
  obtain ⟨g', hgg, _, d0, d1⟩ := hc3 i2 b HB.out
  cases hgg
  rw [HTA.out] at c1
  rw [HTB.out] at d1
  have HC0 := Lib.hid c0; have HC1 := Lib.hid c1; have HD0 := Lib.hid d0; have HD1 := Lib.hid d1
  clear hb3 ho3 hc3
  obtain ⟨x1, x2, x3, x4, x5, x6, x7, x8, x9⟩ := HX.out
  obtain ⟨w4, hw4⟩ : ∃ w4, (w3.alloc (.cells #[.int .i64 a.1, .string tA] 24)).alloc (.cells #[.int .i64 b.1, .string tB] 24) = w4 := ⟨_, rfl⟩
  obtain ⟨hb4, k0, k1⟩ := two_box w3 a.1 b.1 tA tB w4 hw4
  have e0 : w4.cell? ⟨w3.heap.size, 0, none⟩ = some (.int .i64 a.1) := k0.cell 0
  have e1 : w4.cell? ⟨w3.heap.size, 1, none⟩ = some (.string tA) := k0.cell 1
  have e3 : w4.cell? ⟨w3.heap.size + 1, 0, none⟩ = some (.int .i64 b.1) := k1.cell 0
  have e4 : w4.cell? ⟨w3.heap.size + 1, 1, none⟩ = some (.string tB) := k1.cell 1
  have hdd0 : (w3.alloc (.cells #[.int .i64 a.1, .string tA] 24)).cell? ⟨g, i2 * 2, none⟩ = some (.int .i64 b.1) := Lib.cell?_alloc_some _ d0
  have hdd1 : (w3.alloc (.cells #[.int .i64 a.1, .string tA] 24)).cell? ⟨g, i2 * 2 + 1, none⟩ = some (.string tB) := Lib.cell?_alloc_some _ d1
  have K0 := Lib.hid k0; have K1 := Lib.hid k1; have HB4 := Lib.hid (sg.Below.next HB3.out hb4 (Nat.le_refl _))
  clear hb4 k0 k1
  go_wp2_with fail
  ((with_reducible refine (it.known_calls _ (HW.out.own HB4.out)).mono ?_); rintro _ w5 ⟨rfl, hb5⟩)
  have k05 := K0.out.own hb5
  have k15 := K1.out.own hb5
  have f0 : w5.cell? ⟨w3.heap.size, 0, none⟩ = some (.int .i64 a.1) := k05.cell 0
  have f1 : w5.cell? ⟨w3.heap.size, 1, none⟩ = some (.string tA) := k05.cell 1
  have f3 : w5.cell? ⟨w3.heap.size + 1, 0, none⟩ = some (.int .i64 b.1) := k15.cell 0
  have f4 : w5.cell? ⟨w3.heap.size + 1, 1, none⟩ = some (.string tB) := k15.cell 1
  have HB5 := Lib.hid (sg.Below.next HB4.out hb5 (Nat.le_refl _))
  have htc := tight_calls (a.1, tA) (b.1, tB) w5 (HW.out.own HB5.out) hsz
  rw [HM.out] at htc
  clear hb5 k05 k15 e0 e1 e3 e4 hdd0 hdd1 x1 x2 x3 x4 x5 x6 x7 x8 x9 c0 c1 d0 d1 hw4
  go_wp2_with fail
  ((with_reducible refine htc.mono ?_); rintro _ w6 ⟨rfl, hb6⟩)
  have HB6 := Lib.hid (sg.Below.next HB5.out hb6 (Nat.le_refl _))
  clear hb6
  go_wp2_with fail
  go_ret
  exact ⟨rfl, HB6.out⟩
set_option maxRecDepth 100000 in
set_option maxHeartbeats 8000000 in
theorem core_s4 (v : Value) (s : ByteArray) (l : List Lx.Tok) (at' x : Int) (hx0 : 0 ≤ x) (hx1 : x ≤ 255) (m i : Nat) (a b : Lx.Tok) (w : World) (hw : OpsAt w)
    (hsc : Calls Tryz.prog 13 #[v] w fun e w' => e = .returned (.string s) ∧ Below w.heap.size w w')
    (hrt : ∀ w, Calls Tryz.prog 12 #[.string s] w fun e w' => ∃ v, e = .returned (.tuple #[v, .int .i64 0, .int .i64 at']) ∧ w'.ownsRow w.heap.size 24 2 v l.length (tokCells l) ∧ Below w.heap.size w w')
    (hm : l.length = m + 1) (hmm : m ≤ 65536) (hm1 : 1 ≤ m) (hi : x.toNat % m = i) (ha : l[i]? = some a) (hb : l[i + 1]? = some b) (la : a.2.length ≤ 1000) (lb : b.2.length ≤ 1000)
    (hmath : tightB (asTk a) (asTk b) = !Lx.spaceT a b) (hsp : Lx.spaceT a b = true) (h1 : ¬ a.1 < 3) (h2 : ¬ b.1 < 3) (h6 : a.1 = 6) (k6 : b.1 ≠ 6) (k3 : b.1 = 3) :
    Calls Tryz.prog 6 #[v, .int .u8 x] w fun e W' => e = .returned (.bool true) ∧ Below w.heap.size w W' := by
  have HW := Lib.hid hw
  rw [hsp] at hmath
  have him : i < m := by rw [← hi]; exact Nat.mod_lt _ (by omega)
  obtain ⟨i2, hi2⟩ : ∃ i2, i + 1 = i2 := ⟨_, rfl⟩
  rw [hi2] at hb
  have e2 : decide ((l.length : Int) < 2) = false := decide_eq_false (by omega)
  have hlm : l.length ≤ maxLen := by unfold maxLen; omega
  have HA := Lib.hid ha; have HB := Lib.hid hb; have HI := Lib.hid hi; have HMM := Lib.hid hm; have HI2 := Lib.hid hi2
  have hil : (i : Int) < (l.length : Int) := by omega
  have hi2l : (i2 : Int) < (l.length : Int) := by omega
  have hmz : ¬ ((m : Int) = 0) := by omega
  have hmz2 : ((m : Int) == 0) = false := beq_eq_false_iff_ne.2 (by omega)
  have hi0 : (0 : Int) ≤ (i : Int) := by omega
  have hi20 : (0 : Int) ≤ (i2 : Int) := by omega
  have p1 : decide (a.1 < 3) = false := decide_eq_false (by omega)
  have p2 : decide (b.1 < 3) = false := decide_eq_false (by omega)
  have p3 : (a.1 == 6) = true := beq_iff_eq.2 (by omega)
  have p4 : (b.1 == 6) = false := beq_eq_false_iff_ne.2 (by omega)
  have p5 : (b.1 == 3) = true := beq_iff_eq.2 (by omega)
  obtain ⟨tA, hTA⟩ : ∃ t, (⟨a.2.toArray⟩ : ByteArray) = t := ⟨_, rfl⟩
  obtain ⟨tB, hTB⟩ : ∃ t, (⟨b.2.toArray⟩ : ByteArray) = t := ⟨_, rfl⟩
  have hmm2 : tightB (a.1, tA) (b.1, tB) = !true := by rw [← hTA, ← hTB]; exact hmath
  have HM := Lib.hid hmm2
  have HX := Lib.hid (wraps hx0 hx1 hm hmm hm1 hi hi2)
  have hsz : tA.size + tB.size ≤ 140737488351232 := by
    have h1 : tA.size = a.2.length := by rw [← hTA, ← lst_len]
    have h2 : tB.size = b.2.length := by rw [← hTB, ← lst_len]
    omega
  have HTA := Lib.hid hTA; have HTB := Lib.hid hTB
  clear hmath hmm2 hTA hTB hsp ha hb hi hw hi2 la lb hm h1 h2 h6 k6 k3
  go_enter Tryz.func6, Tryz.ntmps6
  go_wp2_with fail
  ((with_reducible refine hsc.mono ?_); rintro _ w2 ⟨rfl, hb2⟩)
  have HB2 := Lib.hid hb2
  clear hb2
  go_wp2_with fail
  ((with_reducible refine (hrt _).mono ?_); rintro _ w3 ⟨v3, rfl, ho3, hb3⟩)
  have HB3 := Lib.hid (sg.Below.next HB2.out hb3 (Nat.le_refl _))
  obtain ⟨a3, c3, hv3, hc3⟩ := ownsRow_toks ho3
  subst hv3
  obtain ⟨g, hg, hgl, c0, c1⟩ := hc3 i a HA.out
  subst hg
  obtain ⟨g', hgg, _, d0, d1⟩ := hc3 i2 b HB.out
  cases hgg
  rw [HTA.out] at c1
  rw [HTB.out] at d1
  have HC0 := Lib.hid c0; have HC1 := Lib.hid c1; have HD0 := Lib.hid d0; have HD1 := Lib.hid d1
  clear hb3 ho3 hc3
  obtain ⟨x1, x2, x3, x4, x5, x6, x7, x8, x9⟩ := HX.out
  obtain ⟨w4, hw4⟩ : ∃ w4, (w3.alloc (.cells #[.int .i64 a.1, .string tA] 24)).alloc (.cells #[.int .i64 b.1, .string tB] 24) = w4 := ⟨_, rfl⟩
  obtain ⟨hb4, k0, k1⟩ := two_box w3 a.1 b.1 tA tB w4 hw4
  have e0 : w4.cell? ⟨w3.heap.size, 0, none⟩ = some (.int .i64 a.1) := k0.cell 0
  have e1 : w4.cell? ⟨w3.heap.size, 1, none⟩ = some (.string tA) := k0.cell 1
  have e3 : w4.cell? ⟨w3.heap.size + 1, 0, none⟩ = some (.int .i64 b.1) := k1.cell 0
  have e4 : w4.cell? ⟨w3.heap.size + 1, 1, none⟩ = some (.string tB) := k1.cell 1
  have hdd0 : (w3.alloc (.cells #[.int .i64 a.1, .string tA] 24)).cell? ⟨g, i2 * 2, none⟩ = some (.int .i64 b.1) := Lib.cell?_alloc_some _ d0
  have hdd1 : (w3.alloc (.cells #[.int .i64 a.1, .string tA] 24)).cell? ⟨g, i2 * 2 + 1, none⟩ = some (.string tB) := Lib.cell?_alloc_some _ d1
  have K0 := Lib.hid k0; have K1 := Lib.hid k1; have HB4 := Lib.hid (sg.Below.next HB3.out hb4 (Nat.le_refl _))
  clear hb4 k0 k1
  go_wp2_with fail
  ((with_reducible refine (it.known_calls _ (HW.out.own HB4.out)).mono ?_); rintro _ w5 ⟨rfl, hb5⟩)
  have k05 := K0.out.own hb5
  have k15 := K1.out.own hb5
  have f0 : w5.cell? ⟨w3.heap.size, 0, none⟩ = some (.int .i64 a.1) := k05.cell 0
  have f1 : w5.cell? ⟨w3.heap.size, 1, none⟩ = some (.string tA) := k05.cell 1
  have f3 : w5.cell? ⟨w3.heap.size + 1, 0, none⟩ = some (.int .i64 b.1) := k15.cell 0
  have f4 : w5.cell? ⟨w3.heap.size + 1, 1, none⟩ = some (.string tB) := k15.cell 1
  have HB5 := Lib.hid (sg.Below.next HB4.out hb5 (Nat.le_refl _))
  have htc := tight_calls (a.1, tA) (b.1, tB) w5 (HW.out.own HB5.out) hsz
  rw [HM.out] at htc
  clear hb5 k05 k15 e0 e1 e3 e4 hdd0 hdd1 x1 x2 x3 x4 x5 x6 x7 x8 x9 c0 c1 d0 d1 hw4
  go_wp2_with fail
  ((with_reducible refine htc.mono ?_); rintro _ w6 ⟨rfl, hb6⟩)
  have HB6 := Lib.hid (sg.Below.next HB5.out hb6 (Nat.le_refl _))
  clear hb6
  go_wp2_with fail
  go_ret
  exact ⟨rfl, HB6.out⟩
set_option maxRecDepth 100000 in
set_option maxHeartbeats 8000000 in
theorem core_n1t1 (v : Value) (s : ByteArray) (l : List Lx.Tok) (at' x : Int) (hx0 : 0 ≤ x) (hx1 : x ≤ 255) (m i : Nat) (a b : Lx.Tok) (w : World) (hw : OpsAt w)
    (hsc : Calls Tryz.prog 13 #[v] w fun e w' => e = .returned (.string s) ∧ Below w.heap.size w w')
    (hrt : ∀ w, Calls Tryz.prog 12 #[.string s] w fun e w' => ∃ v, e = .returned (.tuple #[v, .int .i64 0, .int .i64 at']) ∧ w'.ownsRow w.heap.size 24 2 v l.length (tokCells l) ∧ Below w.heap.size w w')
    (hm : l.length = m + 1) (hmm : m ≤ 65536) (hm1 : 1 ≤ m) (hi : x.toNat % m = i) (ha : l[i]? = some a) (hb : l[i + 1]? = some b) (la : a.2.length ≤ 1000) (lb : b.2.length ≤ 1000)
    (hmath : tightB (asTk a) (asTk b) = !Lx.spaceT a b) (hsp : Lx.spaceT a b = false) (h1 : ¬ a.1 < 3) (h2 : ¬ b.1 < 3) (h6 : a.1 ≠ 6) (ta : a.2 ≠ [58]) :
    Calls Tryz.prog 6 #[v, .int .u8 x] w fun e W' => e = .returned (.bool true) ∧ Below w.heap.size w W' := by
  have HW := Lib.hid hw
  rw [hsp] at hmath
  have him : i < m := by rw [← hi]; exact Nat.mod_lt _ (by omega)
  obtain ⟨i2, hi2⟩ : ∃ i2, i + 1 = i2 := ⟨_, rfl⟩
  rw [hi2] at hb
  have e2 : decide ((l.length : Int) < 2) = false := decide_eq_false (by omega)
  have hlm : l.length ≤ maxLen := by unfold maxLen; omega
  have HA := Lib.hid ha; have HB := Lib.hid hb; have HI := Lib.hid hi; have HMM := Lib.hid hm; have HI2 := Lib.hid hi2
  have hil : (i : Int) < (l.length : Int) := by omega
  have hi2l : (i2 : Int) < (l.length : Int) := by omega
  have hmz : ¬ ((m : Int) = 0) := by omega
  have hmz2 : ((m : Int) == 0) = false := beq_eq_false_iff_ne.2 (by omega)
  have hi0 : (0 : Int) ≤ (i : Int) := by omega
  have hi20 : (0 : Int) ≤ (i2 : Int) := by omega
  have p1 : decide (a.1 < 3) = false := decide_eq_false (by omega)
  have p2 : decide (b.1 < 3) = false := decide_eq_false (by omega)
  have p3 : (a.1 == 6) = false := beq_eq_false_iff_ne.2 (by omega)
  have p6 : ((⟨a.2.toArray⟩ : ByteArray).toList == [58]) = false := (txt _).trans (decide_eq_false ta)
  obtain ⟨tA, hTA⟩ : ∃ t, (⟨a.2.toArray⟩ : ByteArray) = t := ⟨_, rfl⟩
  obtain ⟨tB, hTB⟩ : ∃ t, (⟨b.2.toArray⟩ : ByteArray) = t := ⟨_, rfl⟩
  rw [hTA] at p6
  have hmm2 : tightB (a.1, tA) (b.1, tB) = !false := by rw [← hTA, ← hTB]; exact hmath
  have HM := Lib.hid hmm2
  have HX := Lib.hid (wraps hx0 hx1 hm hmm hm1 hi hi2)
  have hsz : tA.size + tB.size ≤ 140737488351232 := by
    have h1 : tA.size = a.2.length := by rw [← hTA, ← lst_len]
    have h2 : tB.size = b.2.length := by rw [← hTB, ← lst_len]
    omega
  have HTA := Lib.hid hTA; have HTB := Lib.hid hTB
  clear hmath hmm2 hTA hTB hsp ha hb hi hw hi2 la lb hm h1 h2 h6 ta
  go_enter Tryz.func6, Tryz.ntmps6
  go_wp2_with fail
  ((with_reducible refine hsc.mono ?_); rintro _ w2 ⟨rfl, hb2⟩)
  have HB2 := Lib.hid hb2
  clear hb2
  go_wp2_with fail
  ((with_reducible refine (hrt _).mono ?_); rintro _ w3 ⟨v3, rfl, ho3, hb3⟩)
  have HB3 := Lib.hid (sg.Below.next HB2.out hb3 (Nat.le_refl _))
  obtain ⟨a3, c3, hv3, hc3⟩ := ownsRow_toks ho3
  subst hv3
  obtain ⟨g, hg, hgl, c0, c1⟩ := hc3 i a HA.out
  subst hg
  obtain ⟨g', hgg, _, d0, d1⟩ := hc3 i2 b HB.out
  cases hgg
  rw [HTA.out] at c1
  rw [HTB.out] at d1
  have HC0 := Lib.hid c0; have HC1 := Lib.hid c1; have HD0 := Lib.hid d0; have HD1 := Lib.hid d1
  clear hb3 ho3 hc3
  obtain ⟨x1, x2, x3, x4, x5, x6, x7, x8, x9⟩ := HX.out
  obtain ⟨w4, hw4⟩ : ∃ w4, (w3.alloc (.cells #[.int .i64 a.1, .string tA] 24)).alloc (.cells #[.int .i64 b.1, .string tB] 24) = w4 := ⟨_, rfl⟩
  obtain ⟨hb4, k0, k1⟩ := two_box w3 a.1 b.1 tA tB w4 hw4
  have e0 : w4.cell? ⟨w3.heap.size, 0, none⟩ = some (.int .i64 a.1) := k0.cell 0
  have e1 : w4.cell? ⟨w3.heap.size, 1, none⟩ = some (.string tA) := k0.cell 1
  have e3 : w4.cell? ⟨w3.heap.size + 1, 0, none⟩ = some (.int .i64 b.1) := k1.cell 0
  have e4 : w4.cell? ⟨w3.heap.size + 1, 1, none⟩ = some (.string tB) := k1.cell 1
  have hdd0 : (w3.alloc (.cells #[.int .i64 a.1, .string tA] 24)).cell? ⟨g, i2 * 2, none⟩ = some (.int .i64 b.1) := Lib.cell?_alloc_some _ d0
  have hdd1 : (w3.alloc (.cells #[.int .i64 a.1, .string tA] 24)).cell? ⟨g, i2 * 2 + 1, none⟩ = some (.string tB) := Lib.cell?_alloc_some _ d1
  have K0 := Lib.hid k0; have K1 := Lib.hid k1; have HB4 := Lib.hid (sg.Below.next HB3.out hb4 (Nat.le_refl _))
  clear hb4 k0 k1
  go_wp2_with fail
  ((with_reducible refine (it.known_calls _ (HW.out.own HB4.out)).mono ?_); rintro _ w5 ⟨rfl, hb5⟩)
  have k05 := K0.out.own hb5
  have k15 := K1.out.own hb5
  have f0 : w5.cell? ⟨w3.heap.size, 0, none⟩ = some (.int .i64 a.1) := k05.cell 0
  have f1 : w5.cell? ⟨w3.heap.size, 1, none⟩ = some (.string tA) := k05.cell 1
  have f3 : w5.cell? ⟨w3.heap.size + 1, 0, none⟩ = some (.int .i64 b.1) := k15.cell 0
  have f4 : w5.cell? ⟨w3.heap.size + 1, 1, none⟩ = some (.string tB) := k15.cell 1
  have HB5 := Lib.hid (sg.Below.next HB4.out hb5 (Nat.le_refl _))
  have htc := tight_calls (a.1, tA) (b.1, tB) w5 (HW.out.own HB5.out) hsz
  rw [HM.out] at htc
  clear hb5 k05 k15 e0 e1 e3 e4 hdd0 hdd1 x1 x2 x3 x4 x5 x6 x7 x8 x9 c0 c1 d0 d1 hw4
  go_wp2_with fail
  ((with_reducible refine htc.mono ?_); rintro _ w6 ⟨rfl, hb6⟩)
  have HB6 := Lib.hid (sg.Below.next HB5.out hb6 (Nat.le_refl _))
  clear hb6
  go_wp2_with fail
  go_ret
  exact ⟨rfl, HB6.out⟩
set_option maxRecDepth 100000 in
set_option maxHeartbeats 8000000 in
theorem core_n1t2 (v : Value) (s : ByteArray) (l : List Lx.Tok) (at' x : Int) (hx0 : 0 ≤ x) (hx1 : x ≤ 255) (m i : Nat) (a b : Lx.Tok) (w : World) (hw : OpsAt w)
    (hsc : Calls Tryz.prog 13 #[v] w fun e w' => e = .returned (.string s) ∧ Below w.heap.size w w')
    (hrt : ∀ w, Calls Tryz.prog 12 #[.string s] w fun e w' => ∃ v, e = .returned (.tuple #[v, .int .i64 0, .int .i64 at']) ∧ w'.ownsRow w.heap.size 24 2 v l.length (tokCells l) ∧ Below w.heap.size w w')
    (hm : l.length = m + 1) (hmm : m ≤ 65536) (hm1 : 1 ≤ m) (hi : x.toNat % m = i) (ha : l[i]? = some a) (hb : l[i + 1]? = some b) (la : a.2.length ≤ 1000) (lb : b.2.length ≤ 1000)
    (hmath : tightB (asTk a) (asTk b) = !Lx.spaceT a b) (hsp : Lx.spaceT a b = false) (h1 : ¬ a.1 < 3) (h2 : ¬ b.1 < 3) (h6 : a.1 ≠ 6) (ta : a.2 = [58]) (tb : b.2 ≠ [58]) :
    Calls Tryz.prog 6 #[v, .int .u8 x] w fun e W' => e = .returned (.bool true) ∧ Below w.heap.size w W' := by
  have HW := Lib.hid hw
  rw [hsp] at hmath
  have him : i < m := by rw [← hi]; exact Nat.mod_lt _ (by omega)
  obtain ⟨i2, hi2⟩ : ∃ i2, i + 1 = i2 := ⟨_, rfl⟩
  rw [hi2] at hb
  have e2 : decide ((l.length : Int) < 2) = false := decide_eq_false (by omega)
  have hlm : l.length ≤ maxLen := by unfold maxLen; omega
  have HA := Lib.hid ha; have HB := Lib.hid hb; have HI := Lib.hid hi; have HMM := Lib.hid hm; have HI2 := Lib.hid hi2
  have hil : (i : Int) < (l.length : Int) := by omega
  have hi2l : (i2 : Int) < (l.length : Int) := by omega
  have hmz : ¬ ((m : Int) = 0) := by omega
  have hmz2 : ((m : Int) == 0) = false := beq_eq_false_iff_ne.2 (by omega)
  have hi0 : (0 : Int) ≤ (i : Int) := by omega
  have hi20 : (0 : Int) ≤ (i2 : Int) := by omega
  have p1 : decide (a.1 < 3) = false := decide_eq_false (by omega)
  have p2 : decide (b.1 < 3) = false := decide_eq_false (by omega)
  have p3 : (a.1 == 6) = false := beq_eq_false_iff_ne.2 (by omega)
  have p6 : ((⟨a.2.toArray⟩ : ByteArray).toList == [58]) = true := (txt _).trans (decide_eq_true ta)
  have p7 : ((⟨b.2.toArray⟩ : ByteArray).toList == [58]) = false := (txt _).trans (decide_eq_false tb)
  obtain ⟨tA, hTA⟩ : ∃ t, (⟨a.2.toArray⟩ : ByteArray) = t := ⟨_, rfl⟩
  obtain ⟨tB, hTB⟩ : ∃ t, (⟨b.2.toArray⟩ : ByteArray) = t := ⟨_, rfl⟩
  rw [hTA] at p6
  rw [hTB] at p7
  have hmm2 : tightB (a.1, tA) (b.1, tB) = !false := by rw [← hTA, ← hTB]; exact hmath
  have HM := Lib.hid hmm2
  have HX := Lib.hid (wraps hx0 hx1 hm hmm hm1 hi hi2)
  have hsz : tA.size + tB.size ≤ 140737488351232 := by
    have h1 : tA.size = a.2.length := by rw [← hTA, ← lst_len]
    have h2 : tB.size = b.2.length := by rw [← hTB, ← lst_len]
    omega
  have HTA := Lib.hid hTA; have HTB := Lib.hid hTB
  clear hmath hmm2 hTA hTB hsp ha hb hi hw hi2 la lb hm h1 h2 h6 ta tb
  go_enter Tryz.func6, Tryz.ntmps6
  go_wp2_with fail
  ((with_reducible refine hsc.mono ?_); rintro _ w2 ⟨rfl, hb2⟩)
  have HB2 := Lib.hid hb2
  clear hb2
  go_wp2_with fail
  ((with_reducible refine (hrt _).mono ?_); rintro _ w3 ⟨v3, rfl, ho3, hb3⟩)
  have HB3 := Lib.hid (sg.Below.next HB2.out hb3 (Nat.le_refl _))
  obtain ⟨a3, c3, hv3, hc3⟩ := ownsRow_toks ho3
  subst hv3
  obtain ⟨g, hg, hgl, c0, c1⟩ := hc3 i a HA.out
  subst hg
  obtain ⟨g', hgg, _, d0, d1⟩ := hc3 i2 b HB.out
  cases hgg
  rw [HTA.out] at c1
  rw [HTB.out] at d1
  have HC0 := Lib.hid c0; have HC1 := Lib.hid c1; have HD0 := Lib.hid d0; have HD1 := Lib.hid d1
  clear hb3 ho3 hc3
  obtain ⟨x1, x2, x3, x4, x5, x6, x7, x8, x9⟩ := HX.out
  obtain ⟨w4, hw4⟩ : ∃ w4, (w3.alloc (.cells #[.int .i64 a.1, .string tA] 24)).alloc (.cells #[.int .i64 b.1, .string tB] 24) = w4 := ⟨_, rfl⟩
  obtain ⟨hb4, k0, k1⟩ := two_box w3 a.1 b.1 tA tB w4 hw4
  have e0 : w4.cell? ⟨w3.heap.size, 0, none⟩ = some (.int .i64 a.1) := k0.cell 0
  have e1 : w4.cell? ⟨w3.heap.size, 1, none⟩ = some (.string tA) := k0.cell 1
  have e3 : w4.cell? ⟨w3.heap.size + 1, 0, none⟩ = some (.int .i64 b.1) := k1.cell 0
  have e4 : w4.cell? ⟨w3.heap.size + 1, 1, none⟩ = some (.string tB) := k1.cell 1
  have hdd0 : (w3.alloc (.cells #[.int .i64 a.1, .string tA] 24)).cell? ⟨g, i2 * 2, none⟩ = some (.int .i64 b.1) := Lib.cell?_alloc_some _ d0
  have hdd1 : (w3.alloc (.cells #[.int .i64 a.1, .string tA] 24)).cell? ⟨g, i2 * 2 + 1, none⟩ = some (.string tB) := Lib.cell?_alloc_some _ d1
  have K0 := Lib.hid k0; have K1 := Lib.hid k1; have HB4 := Lib.hid (sg.Below.next HB3.out hb4 (Nat.le_refl _))
  clear hb4 k0 k1
  go_wp2_with fail
  ((with_reducible refine (it.known_calls _ (HW.out.own HB4.out)).mono ?_); rintro _ w5 ⟨rfl, hb5⟩)
  have k05 := K0.out.own hb5
  have k15 := K1.out.own hb5
  have f0 : w5.cell? ⟨w3.heap.size, 0, none⟩ = some (.int .i64 a.1) := k05.cell 0
  have f1 : w5.cell? ⟨w3.heap.size, 1, none⟩ = some (.string tA) := k05.cell 1
  have f3 : w5.cell? ⟨w3.heap.size + 1, 0, none⟩ = some (.int .i64 b.1) := k15.cell 0
  have f4 : w5.cell? ⟨w3.heap.size + 1, 1, none⟩ = some (.string tB) := k15.cell 1
  have HB5 := Lib.hid (sg.Below.next HB4.out hb5 (Nat.le_refl _))
  have htc := tight_calls (a.1, tA) (b.1, tB) w5 (HW.out.own HB5.out) hsz
  rw [HM.out] at htc
  clear hb5 k05 k15 e0 e1 e3 e4 hdd0 hdd1 x1 x2 x3 x4 x5 x6 x7 x8 x9 c0 c1 d0 d1 hw4
  go_wp2_with fail
  ((with_reducible refine htc.mono ?_); rintro _ w6 ⟨rfl, hb6⟩)
  have HB6 := Lib.hid (sg.Below.next HB5.out hb6 (Nat.le_refl _))
  clear hb6
  go_wp2_with fail
  go_ret
  exact ⟨rfl, HB6.out⟩
set_option maxRecDepth 100000 in
set_option maxHeartbeats 8000000 in
theorem core_n1t3 (v : Value) (s : ByteArray) (l : List Lx.Tok) (at' x : Int) (hx0 : 0 ≤ x) (hx1 : x ≤ 255) (m i : Nat) (a b : Lx.Tok) (w : World) (hw : OpsAt w)
    (hsc : Calls Tryz.prog 13 #[v] w fun e w' => e = .returned (.string s) ∧ Below w.heap.size w w')
    (hrt : ∀ w, Calls Tryz.prog 12 #[.string s] w fun e w' => ∃ v, e = .returned (.tuple #[v, .int .i64 0, .int .i64 at']) ∧ w'.ownsRow w.heap.size 24 2 v l.length (tokCells l) ∧ Below w.heap.size w w')
    (hm : l.length = m + 1) (hmm : m ≤ 65536) (hm1 : 1 ≤ m) (hi : x.toNat % m = i) (ha : l[i]? = some a) (hb : l[i + 1]? = some b) (la : a.2.length ≤ 1000) (lb : b.2.length ≤ 1000)
    (hmath : tightB (asTk a) (asTk b) = !Lx.spaceT a b) (hsp : Lx.spaceT a b = true) (h1 : ¬ a.1 < 3) (h2 : ¬ b.1 < 3) (h6 : a.1 ≠ 6) (ta : a.2 = [58]) (tb : b.2 = [58]) (h13 : a.1 = 13) :
    Calls Tryz.prog 6 #[v, .int .u8 x] w fun e W' => e = .returned (.bool true) ∧ Below w.heap.size w W' := by
  have HW := Lib.hid hw
  rw [hsp] at hmath
  have him : i < m := by rw [← hi]; exact Nat.mod_lt _ (by omega)
  obtain ⟨i2, hi2⟩ : ∃ i2, i + 1 = i2 := ⟨_, rfl⟩
  rw [hi2] at hb
  have e2 : decide ((l.length : Int) < 2) = false := decide_eq_false (by omega)
  have hlm : l.length ≤ maxLen := by unfold maxLen; omega
  have HA := Lib.hid ha; have HB := Lib.hid hb; have HI := Lib.hid hi; have HMM := Lib.hid hm; have HI2 := Lib.hid hi2
  have hil : (i : Int) < (l.length : Int) := by omega
  have hi2l : (i2 : Int) < (l.length : Int) := by omega
  have hmz : ¬ ((m : Int) = 0) := by omega
  have hmz2 : ((m : Int) == 0) = false := beq_eq_false_iff_ne.2 (by omega)
  have hi0 : (0 : Int) ≤ (i : Int) := by omega
  have hi20 : (0 : Int) ≤ (i2 : Int) := by omega
  have p1 : decide (a.1 < 3) = false := decide_eq_false (by omega)
  have p2 : decide (b.1 < 3) = false := decide_eq_false (by omega)
  have p3 : (a.1 == 6) = false := beq_eq_false_iff_ne.2 (by omega)
  have p6 : ((⟨a.2.toArray⟩ : ByteArray).toList == [58]) = true := (txt _).trans (decide_eq_true ta)
  have p7 : ((⟨b.2.toArray⟩ : ByteArray).toList == [58]) = true := (txt _).trans (decide_eq_true tb)
  have p8 : (a.1 == 13) = true := beq_iff_eq.2 (by omega)
  obtain ⟨tA, hTA⟩ : ∃ t, (⟨a.2.toArray⟩ : ByteArray) = t := ⟨_, rfl⟩
  obtain ⟨tB, hTB⟩ : ∃ t, (⟨b.2.toArray⟩ : ByteArray) = t := ⟨_, rfl⟩
  rw [hTA] at p6
  rw [hTB] at p7
  have hmm2 : tightB (a.1, tA) (b.1, tB) = !true := by rw [← hTA, ← hTB]; exact hmath
  have HM := Lib.hid hmm2
  have HX := Lib.hid (wraps hx0 hx1 hm hmm hm1 hi hi2)
  have hsz : tA.size + tB.size ≤ 140737488351232 := by
    have h1 : tA.size = a.2.length := by rw [← hTA, ← lst_len]
    have h2 : tB.size = b.2.length := by rw [← hTB, ← lst_len]
    omega
  have HTA := Lib.hid hTA; have HTB := Lib.hid hTB
  clear hmath hmm2 hTA hTB hsp ha hb hi hw hi2 la lb hm h1 h2 h6 ta tb h13
  go_enter Tryz.func6, Tryz.ntmps6
  go_wp2_with fail
  ((with_reducible refine hsc.mono ?_); rintro _ w2 ⟨rfl, hb2⟩)
  have HB2 := Lib.hid hb2
  clear hb2
  go_wp2_with fail
  ((with_reducible refine (hrt _).mono ?_); rintro _ w3 ⟨v3, rfl, ho3, hb3⟩)
  have HB3 := Lib.hid (sg.Below.next HB2.out hb3 (Nat.le_refl _))
  obtain ⟨a3, c3, hv3, hc3⟩ := ownsRow_toks ho3
  subst hv3
  obtain ⟨g, hg, hgl, c0, c1⟩ := hc3 i a HA.out
  subst hg
  obtain ⟨g', hgg, _, d0, d1⟩ := hc3 i2 b HB.out
  cases hgg
  rw [HTA.out] at c1
  rw [HTB.out] at d1
  have HC0 := Lib.hid c0; have HC1 := Lib.hid c1; have HD0 := Lib.hid d0; have HD1 := Lib.hid d1
  clear hb3 ho3 hc3
  obtain ⟨x1, x2, x3, x4, x5, x6, x7, x8, x9⟩ := HX.out
  obtain ⟨w4, hw4⟩ : ∃ w4, (w3.alloc (.cells #[.int .i64 a.1, .string tA] 24)).alloc (.cells #[.int .i64 b.1, .string tB] 24) = w4 := ⟨_, rfl⟩
  obtain ⟨hb4, k0, k1⟩ := two_box w3 a.1 b.1 tA tB w4 hw4
  have e0 : w4.cell? ⟨w3.heap.size, 0, none⟩ = some (.int .i64 a.1) := k0.cell 0
  have e1 : w4.cell? ⟨w3.heap.size, 1, none⟩ = some (.string tA) := k0.cell 1
  have e3 : w4.cell? ⟨w3.heap.size + 1, 0, none⟩ = some (.int .i64 b.1) := k1.cell 0
  have e4 : w4.cell? ⟨w3.heap.size + 1, 1, none⟩ = some (.string tB) := k1.cell 1
  have hdd0 : (w3.alloc (.cells #[.int .i64 a.1, .string tA] 24)).cell? ⟨g, i2 * 2, none⟩ = some (.int .i64 b.1) := Lib.cell?_alloc_some _ d0
  have hdd1 : (w3.alloc (.cells #[.int .i64 a.1, .string tA] 24)).cell? ⟨g, i2 * 2 + 1, none⟩ = some (.string tB) := Lib.cell?_alloc_some _ d1
  have K0 := Lib.hid k0; have K1 := Lib.hid k1; have HB4 := Lib.hid (sg.Below.next HB3.out hb4 (Nat.le_refl _))
  clear hb4 k0 k1
  go_wp2_with fail
  ((with_reducible refine (it.known_calls _ (HW.out.own HB4.out)).mono ?_); rintro _ w5 ⟨rfl, hb5⟩)
  have k05 := K0.out.own hb5
  have k15 := K1.out.own hb5
  have f0 : w5.cell? ⟨w3.heap.size, 0, none⟩ = some (.int .i64 a.1) := k05.cell 0
  have f1 : w5.cell? ⟨w3.heap.size, 1, none⟩ = some (.string tA) := k05.cell 1
  have f3 : w5.cell? ⟨w3.heap.size + 1, 0, none⟩ = some (.int .i64 b.1) := k15.cell 0
  have f4 : w5.cell? ⟨w3.heap.size + 1, 1, none⟩ = some (.string tB) := k15.cell 1
  have HB5 := Lib.hid (sg.Below.next HB4.out hb5 (Nat.le_refl _))
  have htc := tight_calls (a.1, tA) (b.1, tB) w5 (HW.out.own HB5.out) hsz
  rw [HM.out] at htc
  clear hb5 k05 k15 e0 e1 e3 e4 hdd0 hdd1 x1 x2 x3 x4 x5 x6 x7 x8 x9 c0 c1 d0 d1 hw4
  go_wp2_with fail
  ((with_reducible refine htc.mono ?_); rintro _ w6 ⟨rfl, hb6⟩)
  have HB6 := Lib.hid (sg.Below.next HB5.out hb6 (Nat.le_refl _))
  clear hb6
  go_wp2_with fail
  go_ret
  exact ⟨rfl, HB6.out⟩
set_option maxRecDepth 100000 in
set_option maxHeartbeats 8000000 in
theorem core_n1t4 (v : Value) (s : ByteArray) (l : List Lx.Tok) (at' x : Int) (hx0 : 0 ≤ x) (hx1 : x ≤ 255) (m i : Nat) (a b : Lx.Tok) (w : World) (hw : OpsAt w)
    (hsc : Calls Tryz.prog 13 #[v] w fun e w' => e = .returned (.string s) ∧ Below w.heap.size w w')
    (hrt : ∀ w, Calls Tryz.prog 12 #[.string s] w fun e w' => ∃ v, e = .returned (.tuple #[v, .int .i64 0, .int .i64 at']) ∧ w'.ownsRow w.heap.size 24 2 v l.length (tokCells l) ∧ Below w.heap.size w w')
    (hm : l.length = m + 1) (hmm : m ≤ 65536) (hm1 : 1 ≤ m) (hi : x.toNat % m = i) (ha : l[i]? = some a) (hb : l[i + 1]? = some b) (la : a.2.length ≤ 1000) (lb : b.2.length ≤ 1000)
    (hmath : tightB (asTk a) (asTk b) = !Lx.spaceT a b) (hsp : Lx.spaceT a b = false) (h1 : ¬ a.1 < 3) (h2 : ¬ b.1 < 3) (h6 : a.1 ≠ 6) (ta : a.2 = [58]) (tb : b.2 = [58]) (h13 : a.1 ≠ 13) :
    Calls Tryz.prog 6 #[v, .int .u8 x] w fun e W' => e = .returned (.bool true) ∧ Below w.heap.size w W' := by
  have HW := Lib.hid hw
  rw [hsp] at hmath
  have him : i < m := by rw [← hi]; exact Nat.mod_lt _ (by omega)
  obtain ⟨i2, hi2⟩ : ∃ i2, i + 1 = i2 := ⟨_, rfl⟩
  rw [hi2] at hb
  have e2 : decide ((l.length : Int) < 2) = false := decide_eq_false (by omega)
  have hlm : l.length ≤ maxLen := by unfold maxLen; omega
  have HA := Lib.hid ha; have HB := Lib.hid hb; have HI := Lib.hid hi; have HMM := Lib.hid hm; have HI2 := Lib.hid hi2
  have hil : (i : Int) < (l.length : Int) := by omega
  have hi2l : (i2 : Int) < (l.length : Int) := by omega
  have hmz : ¬ ((m : Int) = 0) := by omega
  have hmz2 : ((m : Int) == 0) = false := beq_eq_false_iff_ne.2 (by omega)
  have hi0 : (0 : Int) ≤ (i : Int) := by omega
  have hi20 : (0 : Int) ≤ (i2 : Int) := by omega
  have p1 : decide (a.1 < 3) = false := decide_eq_false (by omega)
  have p2 : decide (b.1 < 3) = false := decide_eq_false (by omega)
  have p3 : (a.1 == 6) = false := beq_eq_false_iff_ne.2 (by omega)
  have p6 : ((⟨a.2.toArray⟩ : ByteArray).toList == [58]) = true := (txt _).trans (decide_eq_true ta)
  have p7 : ((⟨b.2.toArray⟩ : ByteArray).toList == [58]) = true := (txt _).trans (decide_eq_true tb)
  have p8 : (a.1 == 13) = false := beq_eq_false_iff_ne.2 (by omega)
  obtain ⟨tA, hTA⟩ : ∃ t, (⟨a.2.toArray⟩ : ByteArray) = t := ⟨_, rfl⟩
  obtain ⟨tB, hTB⟩ : ∃ t, (⟨b.2.toArray⟩ : ByteArray) = t := ⟨_, rfl⟩
  rw [hTA] at p6
  rw [hTB] at p7
  have hmm2 : tightB (a.1, tA) (b.1, tB) = !false := by rw [← hTA, ← hTB]; exact hmath
  have HM := Lib.hid hmm2
  have HX := Lib.hid (wraps hx0 hx1 hm hmm hm1 hi hi2)
  have hsz : tA.size + tB.size ≤ 140737488351232 := by
    have h1 : tA.size = a.2.length := by rw [← hTA, ← lst_len]
    have h2 : tB.size = b.2.length := by rw [← hTB, ← lst_len]
    omega
  have HTA := Lib.hid hTA; have HTB := Lib.hid hTB
  clear hmath hmm2 hTA hTB hsp ha hb hi hw hi2 la lb hm h1 h2 h6 ta tb h13
  go_enter Tryz.func6, Tryz.ntmps6
  go_wp2_with fail
  ((with_reducible refine hsc.mono ?_); rintro _ w2 ⟨rfl, hb2⟩)
  have HB2 := Lib.hid hb2
  clear hb2
  go_wp2_with fail
  ((with_reducible refine (hrt _).mono ?_); rintro _ w3 ⟨v3, rfl, ho3, hb3⟩)
  have HB3 := Lib.hid (sg.Below.next HB2.out hb3 (Nat.le_refl _))
  obtain ⟨a3, c3, hv3, hc3⟩ := ownsRow_toks ho3
  subst hv3
  obtain ⟨g, hg, hgl, c0, c1⟩ := hc3 i a HA.out
  subst hg
  obtain ⟨g', hgg, _, d0, d1⟩ := hc3 i2 b HB.out
  cases hgg
  rw [HTA.out] at c1
  rw [HTB.out] at d1
  have HC0 := Lib.hid c0; have HC1 := Lib.hid c1; have HD0 := Lib.hid d0; have HD1 := Lib.hid d1
  clear hb3 ho3 hc3
  obtain ⟨x1, x2, x3, x4, x5, x6, x7, x8, x9⟩ := HX.out
  obtain ⟨w4, hw4⟩ : ∃ w4, (w3.alloc (.cells #[.int .i64 a.1, .string tA] 24)).alloc (.cells #[.int .i64 b.1, .string tB] 24) = w4 := ⟨_, rfl⟩
  obtain ⟨hb4, k0, k1⟩ := two_box w3 a.1 b.1 tA tB w4 hw4
  have e0 : w4.cell? ⟨w3.heap.size, 0, none⟩ = some (.int .i64 a.1) := k0.cell 0
  have e1 : w4.cell? ⟨w3.heap.size, 1, none⟩ = some (.string tA) := k0.cell 1
  have e3 : w4.cell? ⟨w3.heap.size + 1, 0, none⟩ = some (.int .i64 b.1) := k1.cell 0
  have e4 : w4.cell? ⟨w3.heap.size + 1, 1, none⟩ = some (.string tB) := k1.cell 1
  have hdd0 : (w3.alloc (.cells #[.int .i64 a.1, .string tA] 24)).cell? ⟨g, i2 * 2, none⟩ = some (.int .i64 b.1) := Lib.cell?_alloc_some _ d0
  have hdd1 : (w3.alloc (.cells #[.int .i64 a.1, .string tA] 24)).cell? ⟨g, i2 * 2 + 1, none⟩ = some (.string tB) := Lib.cell?_alloc_some _ d1
  have K0 := Lib.hid k0; have K1 := Lib.hid k1; have HB4 := Lib.hid (sg.Below.next HB3.out hb4 (Nat.le_refl _))
  clear hb4 k0 k1
  go_wp2_with fail
  ((with_reducible refine (it.known_calls _ (HW.out.own HB4.out)).mono ?_); rintro _ w5 ⟨rfl, hb5⟩)
  have k05 := K0.out.own hb5
  have k15 := K1.out.own hb5
  have f0 : w5.cell? ⟨w3.heap.size, 0, none⟩ = some (.int .i64 a.1) := k05.cell 0
  have f1 : w5.cell? ⟨w3.heap.size, 1, none⟩ = some (.string tA) := k05.cell 1
  have f3 : w5.cell? ⟨w3.heap.size + 1, 0, none⟩ = some (.int .i64 b.1) := k15.cell 0
  have f4 : w5.cell? ⟨w3.heap.size + 1, 1, none⟩ = some (.string tB) := k15.cell 1
  have HB5 := Lib.hid (sg.Below.next HB4.out hb5 (Nat.le_refl _))
  have htc := tight_calls (a.1, tA) (b.1, tB) w5 (HW.out.own HB5.out) hsz
  rw [HM.out] at htc
  clear hb5 k05 k15 e0 e1 e3 e4 hdd0 hdd1 x1 x2 x3 x4 x5 x6 x7 x8 x9 c0 c1 d0 d1 hw4
  go_wp2_with fail
  ((with_reducible refine htc.mono ?_); rintro _ w6 ⟨rfl, hb6⟩)
  have HB6 := Lib.hid (sg.Below.next HB5.out hb6 (Nat.le_refl _))
  clear hb6
  go_wp2_with fail
  go_ret
  exact ⟨rfl, HB6.out⟩
set_option maxRecDepth 100000 in
set_option maxHeartbeats 8000000 in
theorem core_n2t1 (v : Value) (s : ByteArray) (l : List Lx.Tok) (at' x : Int) (hx0 : 0 ≤ x) (hx1 : x ≤ 255) (m i : Nat) (a b : Lx.Tok) (w : World) (hw : OpsAt w)
    (hsc : Calls Tryz.prog 13 #[v] w fun e w' => e = .returned (.string s) ∧ Below w.heap.size w w')
    (hrt : ∀ w, Calls Tryz.prog 12 #[.string s] w fun e w' => ∃ v, e = .returned (.tuple #[v, .int .i64 0, .int .i64 at']) ∧ w'.ownsRow w.heap.size 24 2 v l.length (tokCells l) ∧ Below w.heap.size w w')
    (hm : l.length = m + 1) (hmm : m ≤ 65536) (hm1 : 1 ≤ m) (hi : x.toNat % m = i) (ha : l[i]? = some a) (hb : l[i + 1]? = some b) (la : a.2.length ≤ 1000) (lb : b.2.length ≤ 1000)
    (hmath : tightB (asTk a) (asTk b) = !Lx.spaceT a b) (hsp : Lx.spaceT a b = false) (h1 : ¬ a.1 < 3) (h2 : ¬ b.1 < 3) (h6 : a.1 = 6) (k6 : b.1 ≠ 6) (k3 : b.1 ≠ 3) (ta : a.2 ≠ [58]) :
    Calls Tryz.prog 6 #[v, .int .u8 x] w fun e W' => e = .returned (.bool true) ∧ Below w.heap.size w W' := by
  have HW := Lib.hid hw
  rw [hsp] at hmath
  have him : i < m := by rw [← hi]; exact Nat.mod_lt _ (by omega)
  obtain ⟨i2, hi2⟩ : ∃ i2, i + 1 = i2 := ⟨_, rfl⟩
  rw [hi2] at hb
  have e2 : decide ((l.length : Int) < 2) = false := decide_eq_false (by omega)
  have hlm : l.length ≤ maxLen := by unfold maxLen; omega
  have HA := Lib.hid ha; have HB := Lib.hid hb; have HI := Lib.hid hi; have HMM := Lib.hid hm; have HI2 := Lib.hid hi2
  have hil : (i : Int) < (l.length : Int) := by omega
  have hi2l : (i2 : Int) < (l.length : Int) := by omega
  have hmz : ¬ ((m : Int) = 0) := by omega
  have hmz2 : ((m : Int) == 0) = false := beq_eq_false_iff_ne.2 (by omega)
  have hi0 : (0 : Int) ≤ (i : Int) := by omega
  have hi20 : (0 : Int) ≤ (i2 : Int) := by omega
  have p1 : decide (a.1 < 3) = false := decide_eq_false (by omega)
  have p2 : decide (b.1 < 3) = false := decide_eq_false (by omega)
  have p3 : (a.1 == 6) = true := beq_iff_eq.2 (by omega)
  have p4 : (b.1 == 6) = false := beq_eq_false_iff_ne.2 (by omega)
  have p5 : (b.1 == 3) = false := beq_eq_false_iff_ne.2 (by omega)
  have p6 : ((⟨a.2.toArray⟩ : ByteArray).toList == [58]) = false := (txt _).trans (decide_eq_false ta)
  obtain ⟨tA, hTA⟩ : ∃ t, (⟨a.2.toArray⟩ : ByteArray) = t := ⟨_, rfl⟩
  obtain ⟨tB, hTB⟩ : ∃ t, (⟨b.2.toArray⟩ : ByteArray) = t := ⟨_, rfl⟩
  rw [hTA] at p6
  have hmm2 : tightB (a.1, tA) (b.1, tB) = !false := by rw [← hTA, ← hTB]; exact hmath
  have HM := Lib.hid hmm2
  have HX := Lib.hid (wraps hx0 hx1 hm hmm hm1 hi hi2)
  have hsz : tA.size + tB.size ≤ 140737488351232 := by
    have h1 : tA.size = a.2.length := by rw [← hTA, ← lst_len]
    have h2 : tB.size = b.2.length := by rw [← hTB, ← lst_len]
    omega
  have HTA := Lib.hid hTA; have HTB := Lib.hid hTB
  clear hmath hmm2 hTA hTB hsp ha hb hi hw hi2 la lb hm h1 h2 h6 k6 k3 ta
  go_enter Tryz.func6, Tryz.ntmps6
  go_wp2_with fail
  ((with_reducible refine hsc.mono ?_); rintro _ w2 ⟨rfl, hb2⟩)
  have HB2 := Lib.hid hb2
  clear hb2
  go_wp2_with fail
  ((with_reducible refine (hrt _).mono ?_); rintro _ w3 ⟨v3, rfl, ho3, hb3⟩)
  have HB3 := Lib.hid (sg.Below.next HB2.out hb3 (Nat.le_refl _))
  obtain ⟨a3, c3, hv3, hc3⟩ := ownsRow_toks ho3
  subst hv3
  obtain ⟨g, hg, hgl, c0, c1⟩ := hc3 i a HA.out
  subst hg
  obtain ⟨g', hgg, _, d0, d1⟩ := hc3 i2 b HB.out
  cases hgg
  rw [HTA.out] at c1
  rw [HTB.out] at d1
  have HC0 := Lib.hid c0; have HC1 := Lib.hid c1; have HD0 := Lib.hid d0; have HD1 := Lib.hid d1
  clear hb3 ho3 hc3
  obtain ⟨x1, x2, x3, x4, x5, x6, x7, x8, x9⟩ := HX.out
  obtain ⟨w4, hw4⟩ : ∃ w4, (w3.alloc (.cells #[.int .i64 a.1, .string tA] 24)).alloc (.cells #[.int .i64 b.1, .string tB] 24) = w4 := ⟨_, rfl⟩
  obtain ⟨hb4, k0, k1⟩ := two_box w3 a.1 b.1 tA tB w4 hw4
  have e0 : w4.cell? ⟨w3.heap.size, 0, none⟩ = some (.int .i64 a.1) := k0.cell 0
  have e1 : w4.cell? ⟨w3.heap.size, 1, none⟩ = some (.string tA) := k0.cell 1
  have e3 : w4.cell? ⟨w3.heap.size + 1, 0, none⟩ = some (.int .i64 b.1) := k1.cell 0
  have e4 : w4.cell? ⟨w3.heap.size + 1, 1, none⟩ = some (.string tB) := k1.cell 1
  have hdd0 : (w3.alloc (.cells #[.int .i64 a.1, .string tA] 24)).cell? ⟨g, i2 * 2, none⟩ = some (.int .i64 b.1) := Lib.cell?_alloc_some _ d0
  have hdd1 : (w3.alloc (.cells #[.int .i64 a.1, .string tA] 24)).cell? ⟨g, i2 * 2 + 1, none⟩ = some (.string tB) := Lib.cell?_alloc_some _ d1
  have K0 := Lib.hid k0; have K1 := Lib.hid k1; have HB4 := Lib.hid (sg.Below.next HB3.out hb4 (Nat.le_refl _))
  clear hb4 k0 k1
  go_wp2_with fail
  ((with_reducible refine (it.known_calls _ (HW.out.own HB4.out)).mono ?_); rintro _ w5 ⟨rfl, hb5⟩)
  have k05 := K0.out.own hb5
  have k15 := K1.out.own hb5
  have f0 : w5.cell? ⟨w3.heap.size, 0, none⟩ = some (.int .i64 a.1) := k05.cell 0
  have f1 : w5.cell? ⟨w3.heap.size, 1, none⟩ = some (.string tA) := k05.cell 1
  have f3 : w5.cell? ⟨w3.heap.size + 1, 0, none⟩ = some (.int .i64 b.1) := k15.cell 0
  have f4 : w5.cell? ⟨w3.heap.size + 1, 1, none⟩ = some (.string tB) := k15.cell 1
  have HB5 := Lib.hid (sg.Below.next HB4.out hb5 (Nat.le_refl _))
  have htc := tight_calls (a.1, tA) (b.1, tB) w5 (HW.out.own HB5.out) hsz
  rw [HM.out] at htc
  clear hb5 k05 k15 e0 e1 e3 e4 hdd0 hdd1 x1 x2 x3 x4 x5 x6 x7 x8 x9 c0 c1 d0 d1 hw4
  go_wp2_with fail
  ((with_reducible refine htc.mono ?_); rintro _ w6 ⟨rfl, hb6⟩)
  have HB6 := Lib.hid (sg.Below.next HB5.out hb6 (Nat.le_refl _))
  clear hb6
  go_wp2_with fail
  go_ret
  exact ⟨rfl, HB6.out⟩
set_option maxRecDepth 100000 in
set_option maxHeartbeats 8000000 in
theorem core_n2t2 (v : Value) (s : ByteArray) (l : List Lx.Tok) (at' x : Int) (hx0 : 0 ≤ x) (hx1 : x ≤ 255) (m i : Nat) (a b : Lx.Tok) (w : World) (hw : OpsAt w)
    (hsc : Calls Tryz.prog 13 #[v] w fun e w' => e = .returned (.string s) ∧ Below w.heap.size w w')
    (hrt : ∀ w, Calls Tryz.prog 12 #[.string s] w fun e w' => ∃ v, e = .returned (.tuple #[v, .int .i64 0, .int .i64 at']) ∧ w'.ownsRow w.heap.size 24 2 v l.length (tokCells l) ∧ Below w.heap.size w w')
    (hm : l.length = m + 1) (hmm : m ≤ 65536) (hm1 : 1 ≤ m) (hi : x.toNat % m = i) (ha : l[i]? = some a) (hb : l[i + 1]? = some b) (la : a.2.length ≤ 1000) (lb : b.2.length ≤ 1000)
    (hmath : tightB (asTk a) (asTk b) = !Lx.spaceT a b) (hsp : Lx.spaceT a b = false) (h1 : ¬ a.1 < 3) (h2 : ¬ b.1 < 3) (h6 : a.1 = 6) (k6 : b.1 ≠ 6) (k3 : b.1 ≠ 3) (ta : a.2 = [58]) (tb : b.2 ≠ [58]) :
    Calls Tryz.prog 6 #[v, .int .u8 x] w fun e W' => e = .returned (.bool true) ∧ Below w.heap.size w W' := by
  have HW := Lib.hid hw
  rw [hsp] at hmath
  have him : i < m := by rw [← hi]; exact Nat.mod_lt _ (by omega)
  obtain ⟨i2, hi2⟩ : ∃ i2, i + 1 = i2 := ⟨_, rfl⟩
  rw [hi2] at hb
  have e2 : decide ((l.length : Int) < 2) = false := decide_eq_false (by omega)
  have hlm : l.length ≤ maxLen := by unfold maxLen; omega
  have HA := Lib.hid ha; have HB := Lib.hid hb; have HI := Lib.hid hi; have HMM := Lib.hid hm; have HI2 := Lib.hid hi2
  have hil : (i : Int) < (l.length : Int) := by omega
  have hi2l : (i2 : Int) < (l.length : Int) := by omega
  have hmz : ¬ ((m : Int) = 0) := by omega
  have hmz2 : ((m : Int) == 0) = false := beq_eq_false_iff_ne.2 (by omega)
  have hi0 : (0 : Int) ≤ (i : Int) := by omega
  have hi20 : (0 : Int) ≤ (i2 : Int) := by omega
  have p1 : decide (a.1 < 3) = false := decide_eq_false (by omega)
  have p2 : decide (b.1 < 3) = false := decide_eq_false (by omega)
  have p3 : (a.1 == 6) = true := beq_iff_eq.2 (by omega)
  have p4 : (b.1 == 6) = false := beq_eq_false_iff_ne.2 (by omega)
  have p5 : (b.1 == 3) = false := beq_eq_false_iff_ne.2 (by omega)
  have p6 : ((⟨a.2.toArray⟩ : ByteArray).toList == [58]) = true := (txt _).trans (decide_eq_true ta)
  have p7 : ((⟨b.2.toArray⟩ : ByteArray).toList == [58]) = false := (txt _).trans (decide_eq_false tb)
  obtain ⟨tA, hTA⟩ : ∃ t, (⟨a.2.toArray⟩ : ByteArray) = t := ⟨_, rfl⟩
  obtain ⟨tB, hTB⟩ : ∃ t, (⟨b.2.toArray⟩ : ByteArray) = t := ⟨_, rfl⟩
  rw [hTA] at p6
  rw [hTB] at p7
  have hmm2 : tightB (a.1, tA) (b.1, tB) = !false := by rw [← hTA, ← hTB]; exact hmath
  have HM := Lib.hid hmm2
  have HX := Lib.hid (wraps hx0 hx1 hm hmm hm1 hi hi2)
  have hsz : tA.size + tB.size ≤ 140737488351232 := by
    have h1 : tA.size = a.2.length := by rw [← hTA, ← lst_len]
    have h2 : tB.size = b.2.length := by rw [← hTB, ← lst_len]
    omega
  have HTA := Lib.hid hTA; have HTB := Lib.hid hTB
  clear hmath hmm2 hTA hTB hsp ha hb hi hw hi2 la lb hm h1 h2 h6 k6 k3 ta tb
  go_enter Tryz.func6, Tryz.ntmps6
  go_wp2_with fail
  ((with_reducible refine hsc.mono ?_); rintro _ w2 ⟨rfl, hb2⟩)
  have HB2 := Lib.hid hb2
  clear hb2
  go_wp2_with fail
  ((with_reducible refine (hrt _).mono ?_); rintro _ w3 ⟨v3, rfl, ho3, hb3⟩)
  have HB3 := Lib.hid (sg.Below.next HB2.out hb3 (Nat.le_refl _))
  obtain ⟨a3, c3, hv3, hc3⟩ := ownsRow_toks ho3
  subst hv3
  obtain ⟨g, hg, hgl, c0, c1⟩ := hc3 i a HA.out
  subst hg
  obtain ⟨g', hgg, _, d0, d1⟩ := hc3 i2 b HB.out
  cases hgg
  rw [HTA.out] at c1
  rw [HTB.out] at d1
  have HC0 := Lib.hid c0; have HC1 := Lib.hid c1; have HD0 := Lib.hid d0; have HD1 := Lib.hid d1
  clear hb3 ho3 hc3
  obtain ⟨x1, x2, x3, x4, x5, x6, x7, x8, x9⟩ := HX.out
  obtain ⟨w4, hw4⟩ : ∃ w4, (w3.alloc (.cells #[.int .i64 a.1, .string tA] 24)).alloc (.cells #[.int .i64 b.1, .string tB] 24) = w4 := ⟨_, rfl⟩
  obtain ⟨hb4, k0, k1⟩ := two_box w3 a.1 b.1 tA tB w4 hw4
  have e0 : w4.cell? ⟨w3.heap.size, 0, none⟩ = some (.int .i64 a.1) := k0.cell 0
  have e1 : w4.cell? ⟨w3.heap.size, 1, none⟩ = some (.string tA) := k0.cell 1
  have e3 : w4.cell? ⟨w3.heap.size + 1, 0, none⟩ = some (.int .i64 b.1) := k1.cell 0
  have e4 : w4.cell? ⟨w3.heap.size + 1, 1, none⟩ = some (.string tB) := k1.cell 1
  have hdd0 : (w3.alloc (.cells #[.int .i64 a.1, .string tA] 24)).cell? ⟨g, i2 * 2, none⟩ = some (.int .i64 b.1) := Lib.cell?_alloc_some _ d0
  have hdd1 : (w3.alloc (.cells #[.int .i64 a.1, .string tA] 24)).cell? ⟨g, i2 * 2 + 1, none⟩ = some (.string tB) := Lib.cell?_alloc_some _ d1
  have K0 := Lib.hid k0; have K1 := Lib.hid k1; have HB4 := Lib.hid (sg.Below.next HB3.out hb4 (Nat.le_refl _))
  clear hb4 k0 k1
  go_wp2_with fail
  ((with_reducible refine (it.known_calls _ (HW.out.own HB4.out)).mono ?_); rintro _ w5 ⟨rfl, hb5⟩)
  have k05 := K0.out.own hb5
  have k15 := K1.out.own hb5
  have f0 : w5.cell? ⟨w3.heap.size, 0, none⟩ = some (.int .i64 a.1) := k05.cell 0
  have f1 : w5.cell? ⟨w3.heap.size, 1, none⟩ = some (.string tA) := k05.cell 1
  have f3 : w5.cell? ⟨w3.heap.size + 1, 0, none⟩ = some (.int .i64 b.1) := k15.cell 0
  have f4 : w5.cell? ⟨w3.heap.size + 1, 1, none⟩ = some (.string tB) := k15.cell 1
  have HB5 := Lib.hid (sg.Below.next HB4.out hb5 (Nat.le_refl _))
  have htc := tight_calls (a.1, tA) (b.1, tB) w5 (HW.out.own HB5.out) hsz
  rw [HM.out] at htc
  clear hb5 k05 k15 e0 e1 e3 e4 hdd0 hdd1 x1 x2 x3 x4 x5 x6 x7 x8 x9 c0 c1 d0 d1 hw4
  go_wp2_with fail
  ((with_reducible refine htc.mono ?_); rintro _ w6 ⟨rfl, hb6⟩)
  have HB6 := Lib.hid (sg.Below.next HB5.out hb6 (Nat.le_refl _))
  clear hb6
  go_wp2_with fail
  go_ret
  exact ⟨rfl, HB6.out⟩
set_option maxRecDepth 100000 in
set_option maxHeartbeats 8000000 in
theorem core_n2t4 (v : Value) (s : ByteArray) (l : List Lx.Tok) (at' x : Int) (hx0 : 0 ≤ x) (hx1 : x ≤ 255) (m i : Nat) (a b : Lx.Tok) (w : World) (hw : OpsAt w)
    (hsc : Calls Tryz.prog 13 #[v] w fun e w' => e = .returned (.string s) ∧ Below w.heap.size w w')
    (hrt : ∀ w, Calls Tryz.prog 12 #[.string s] w fun e w' => ∃ v, e = .returned (.tuple #[v, .int .i64 0, .int .i64 at']) ∧ w'.ownsRow w.heap.size 24 2 v l.length (tokCells l) ∧ Below w.heap.size w w')
    (hm : l.length = m + 1) (hmm : m ≤ 65536) (hm1 : 1 ≤ m) (hi : x.toNat % m = i) (ha : l[i]? = some a) (hb : l[i + 1]? = some b) (la : a.2.length ≤ 1000) (lb : b.2.length ≤ 1000)
    (hmath : tightB (asTk a) (asTk b) = !Lx.spaceT a b) (hsp : Lx.spaceT a b = false) (h1 : ¬ a.1 < 3) (h2 : ¬ b.1 < 3) (h6 : a.1 = 6) (k6 : b.1 ≠ 6) (k3 : b.1 ≠ 3) (ta : a.2 = [58]) (tb : b.2 = [58]) (h13 : a.1 ≠ 13) :
    Calls Tryz.prog 6 #[v, .int .u8 x] w fun e W' => e = .returned (.bool true) ∧ Below w.heap.size w W' := by
  have HW := Lib.hid hw
  rw [hsp] at hmath
  have him : i < m := by rw [← hi]; exact Nat.mod_lt _ (by omega)
  obtain ⟨i2, hi2⟩ : ∃ i2, i + 1 = i2 := ⟨_, rfl⟩
  rw [hi2] at hb
  have e2 : decide ((l.length : Int) < 2) = false := decide_eq_false (by omega)
  have hlm : l.length ≤ maxLen := by unfold maxLen; omega
  have HA := Lib.hid ha; have HB := Lib.hid hb; have HI := Lib.hid hi; have HMM := Lib.hid hm; have HI2 := Lib.hid hi2
  have hil : (i : Int) < (l.length : Int) := by omega
  have hi2l : (i2 : Int) < (l.length : Int) := by omega
  have hmz : ¬ ((m : Int) = 0) := by omega
  have hmz2 : ((m : Int) == 0) = false := beq_eq_false_iff_ne.2 (by omega)
  have hi0 : (0 : Int) ≤ (i : Int) := by omega
  have hi20 : (0 : Int) ≤ (i2 : Int) := by omega
  have p1 : decide (a.1 < 3) = false := decide_eq_false (by omega)
  have p2 : decide (b.1 < 3) = false := decide_eq_false (by omega)
  have p3 : (a.1 == 6) = true := beq_iff_eq.2 (by omega)
  have p4 : (b.1 == 6) = false := beq_eq_false_iff_ne.2 (by omega)
  have p5 : (b.1 == 3) = false := beq_eq_false_iff_ne.2 (by omega)
  have p6 : ((⟨a.2.toArray⟩ : ByteArray).toList == [58]) = true := (txt _).trans (decide_eq_true ta)
  have p7 : ((⟨b.2.toArray⟩ : ByteArray).toList == [58]) = true := (txt _).trans (decide_eq_true tb)
  have p8 : (a.1 == 13) = false := beq_eq_false_iff_ne.2 (by omega)
  obtain ⟨tA, hTA⟩ : ∃ t, (⟨a.2.toArray⟩ : ByteArray) = t := ⟨_, rfl⟩
  obtain ⟨tB, hTB⟩ : ∃ t, (⟨b.2.toArray⟩ : ByteArray) = t := ⟨_, rfl⟩
  rw [hTA] at p6
  rw [hTB] at p7
  have hmm2 : tightB (a.1, tA) (b.1, tB) = !false := by rw [← hTA, ← hTB]; exact hmath
  have HM := Lib.hid hmm2
  have HX := Lib.hid (wraps hx0 hx1 hm hmm hm1 hi hi2)
  have hsz : tA.size + tB.size ≤ 140737488351232 := by
    have h1 : tA.size = a.2.length := by rw [← hTA, ← lst_len]
    have h2 : tB.size = b.2.length := by rw [← hTB, ← lst_len]
    omega
  have HTA := Lib.hid hTA; have HTB := Lib.hid hTB
  clear hmath hmm2 hTA hTB hsp ha hb hi hw hi2 la lb hm h1 h2 h6 k6 k3 ta tb h13
  go_enter Tryz.func6, Tryz.ntmps6
  go_wp2_with fail
  ((with_reducible refine hsc.mono ?_); rintro _ w2 ⟨rfl, hb2⟩)
  have HB2 := Lib.hid hb2
  clear hb2
  go_wp2_with fail
  ((with_reducible refine (hrt _).mono ?_); rintro _ w3 ⟨v3, rfl, ho3, hb3⟩)
  have HB3 := Lib.hid (sg.Below.next HB2.out hb3 (Nat.le_refl _))
  obtain ⟨a3, c3, hv3, hc3⟩ := ownsRow_toks ho3
  subst hv3
  obtain ⟨g, hg, hgl, c0, c1⟩ := hc3 i a HA.out
  subst hg
  obtain ⟨g', hgg, _, d0, d1⟩ := hc3 i2 b HB.out
  cases hgg
  rw [HTA.out] at c1
  rw [HTB.out] at d1
  have HC0 := Lib.hid c0; have HC1 := Lib.hid c1; have HD0 := Lib.hid d0; have HD1 := Lib.hid d1
  clear hb3 ho3 hc3
  obtain ⟨x1, x2, x3, x4, x5, x6, x7, x8, x9⟩ := HX.out
  obtain ⟨w4, hw4⟩ : ∃ w4, (w3.alloc (.cells #[.int .i64 a.1, .string tA] 24)).alloc (.cells #[.int .i64 b.1, .string tB] 24) = w4 := ⟨_, rfl⟩
  obtain ⟨hb4, k0, k1⟩ := two_box w3 a.1 b.1 tA tB w4 hw4
  have e0 : w4.cell? ⟨w3.heap.size, 0, none⟩ = some (.int .i64 a.1) := k0.cell 0
  have e1 : w4.cell? ⟨w3.heap.size, 1, none⟩ = some (.string tA) := k0.cell 1
  have e3 : w4.cell? ⟨w3.heap.size + 1, 0, none⟩ = some (.int .i64 b.1) := k1.cell 0
  have e4 : w4.cell? ⟨w3.heap.size + 1, 1, none⟩ = some (.string tB) := k1.cell 1
  have hdd0 : (w3.alloc (.cells #[.int .i64 a.1, .string tA] 24)).cell? ⟨g, i2 * 2, none⟩ = some (.int .i64 b.1) := Lib.cell?_alloc_some _ d0
  have hdd1 : (w3.alloc (.cells #[.int .i64 a.1, .string tA] 24)).cell? ⟨g, i2 * 2 + 1, none⟩ = some (.string tB) := Lib.cell?_alloc_some _ d1
  have K0 := Lib.hid k0; have K1 := Lib.hid k1; have HB4 := Lib.hid (sg.Below.next HB3.out hb4 (Nat.le_refl _))
  clear hb4 k0 k1
  go_wp2_with fail
  ((with_reducible refine (it.known_calls _ (HW.out.own HB4.out)).mono ?_); rintro _ w5 ⟨rfl, hb5⟩)
  have k05 := K0.out.own hb5
  have k15 := K1.out.own hb5
  have f0 : w5.cell? ⟨w3.heap.size, 0, none⟩ = some (.int .i64 a.1) := k05.cell 0
  have f1 : w5.cell? ⟨w3.heap.size, 1, none⟩ = some (.string tA) := k05.cell 1
  have f3 : w5.cell? ⟨w3.heap.size + 1, 0, none⟩ = some (.int .i64 b.1) := k15.cell 0
  have f4 : w5.cell? ⟨w3.heap.size + 1, 1, none⟩ = some (.string tB) := k15.cell 1
  have HB5 := Lib.hid (sg.Below.next HB4.out hb5 (Nat.le_refl _))
  have htc := tight_calls (a.1, tA) (b.1, tB) w5 (HW.out.own HB5.out) hsz
  rw [HM.out] at htc
  clear hb5 k05 k15 e0 e1 e3 e4 hdd0 hdd1 x1 x2 x3 x4 x5 x6 x7 x8 x9 c0 c1 d0 d1 hw4
  go_wp2_with fail
  ((with_reducible refine htc.mono ?_); rintro _ w6 ⟨rfl, hb6⟩)
  have HB6 := Lib.hid (sg.Below.next HB5.out hb6 (Nat.le_refl _))
  clear hb6
  go_wp2_with fail
  go_ret
  exact ⟨rfl, HB6.out⟩
set_option maxRecDepth 100000 in
set_option maxHeartbeats 8000000 in
theorem walk (v : Value) (bs : List Int) (x : Int) (hx0 : 0 ≤ x) (hx1 : x ≤ 255) (w : World) (hv : law.BytesAt w v bs) (hw : OpsAt w) :
    Calls Tryz.prog 6 #[v, .int .u8 x] w fun e W' => e = .returned (.bool true) ∧ Below w.heap.size w W' := by
  have HW := Lib.hid hw
  obtain ⟨s, hs⟩ : ∃ s, srcF bs = s := ⟨_, rfl⟩
  have hss := srcF_size bs
  have hsc := source_calls v bs w hv
  rw [hs] at hss hsc
  clear hs hv hw
  obtain ⟨l, e, at', he⟩ : ∃ l e at', tokensF s.data.toList (utf.checkF s) = (l, e, at') := ⟨_, _, _, rfl⟩
  have hrt := fun w => rtokens_as s (by omega) w l e at' he
  have hln := len_tokens s (by omega)
  rw [he] at hln
  simp only at hln
  have hlm : l.length ≤ maxLen := by unfold maxLen; omega
  by_cases h0 : e = 0
  case neg =>
    have e0 : (e == 0) = false := beq_eq_false_iff_ne.2 h0
    have e1 : (e != 0) = true := bne_iff_ne.2 h0
    clear he hln
    go_enter Tryz.func6, Tryz.ntmps6
    go_wp2_with fail
    ((with_reducible refine hsc.mono ?_); rintro _ w2 ⟨rfl, hb2⟩)
    have HB2 := Lib.hid hb2
    clear hb2
    go_wp2_with fail
    ((with_reducible refine (hrt _).mono ?_); rintro _ w3 ⟨v3, rfl, ho3, hb3⟩)
    have HB3 := Lib.hid (sg.Below.next HB2.out hb3 (Nat.le_refl _))
    obtain ⟨a3, l3, c3, rfl⟩ := own_slice ho3
    clear hb3 ho3
    go_wp2_with fail
    ((with_reducible refine (it.known_calls _ (HW.out.own HB3.out)).mono ?_); rintro _ w4 ⟨rfl, hb4⟩)
    have HB4 := Lib.hid (sg.Below.next HB3.out hb4 (Nat.le_refl _))
    clear hb4
    go_wp2_with fail
    go_ret
    exact ⟨rfl, HB4.out⟩
  subst h0
  by_cases h2 : l.length < 2
  · have e2 : decide ((l.length : Int) < 2) = true := decide_eq_true (by omega)
    clear he hln
    go_enter Tryz.func6, Tryz.ntmps6
    go_wp2_with fail
    ((with_reducible refine hsc.mono ?_); rintro _ w2 ⟨rfl, hb2⟩)
    have HB2 := Lib.hid hb2
    clear hb2
    go_wp2_with fail
    ((with_reducible refine (hrt _).mono ?_); rintro _ w3 ⟨v3, rfl, ho3, hb3⟩)
    have HB3 := Lib.hid (sg.Below.next HB2.out hb3 (Nat.le_refl _))
    obtain ⟨a3, c3, hv3⟩ : ∃ ao cap, v3 = .slice ao l.length cap := by obtain ⟨ao, cap, h, _⟩ := ownsRow_toks ho3; exact ⟨ao, cap, h⟩
    subst hv3
    clear hb3 ho3
    go_wp2_with fail
    ((with_reducible refine (it.known_calls _ (HW.out.own HB3.out)).mono ?_); rintro _ w4 ⟨rfl, hb4⟩)
    have HB4 := Lib.hid (sg.Below.next HB3.out hb4 (Nat.le_refl _))
    clear hb4
    go_wp2_with fail
    go_ret
    exact ⟨rfl, HB4.out⟩
  · have e2 : decide ((l.length : Int) < 2) = false := decide_eq_false (by omega)
    obtain ⟨m, hm⟩ : ∃ m, l.length = m + 1 := ⟨l.length - 1, by omega⟩
    obtain ⟨i, hi⟩ : ∃ i, x.toNat % m = i := ⟨_, rfl⟩
    have him : i < m := by rw [← hi]; exact Nat.mod_lt _ (by omega)
    obtain ⟨a, ha⟩ : ∃ a, l[i]? = some a := ⟨_, List.getElem?_eq_getElem (by omega)⟩
    obtain ⟨b, hb⟩ : ∃ b, l[i + 1]? = some b := ⟨_, List.getElem?_eq_getElem (by omega)⟩
    obtain ⟨hmath, la, lb⟩ := tight_math (by omega) he ha hb
    by_cases h1 : a.1 < 3
    · exact core_s1 v s l at' x hx0 hx1 m i a b w HW.out hsc hrt hm (by omega) (by omega) hi ha hb la lb hmath (by unfold Lx.spaceT Lx.numT; simp [h1]) h1
    · by_cases h2 : b.1 < 3
      · exact core_s2 v s l at' x hx0 hx1 m i a b w HW.out hsc hrt hm (by omega) (by omega) hi ha hb la lb hmath (by unfold Lx.spaceT Lx.numT; simp [h1, h2]) h1 h2
      · by_cases h6 : a.1 = 6
        · by_cases k6 : b.1 = 6
          · exact core_s3 v s l at' x hx0 hx1 m i a b w HW.out hsc hrt hm (by omega) (by omega) hi ha hb la lb hmath (by unfold Lx.spaceT Lx.numT; simp [h6, k6]) h1 h2 h6 k6
          · by_cases k3 : b.1 = 3
            · exact core_s4 v s l at' x hx0 hx1 m i a b w HW.out hsc hrt hm (by omega) (by omega) hi ha hb la lb hmath (by unfold Lx.spaceT Lx.numT; simp [h6, k3]) h1 h2 h6 k6 k3
            · by_cases ta : a.2 = [58]
              · by_cases tb : b.2 = [58]
                · exact core_n2t4 v s l at' x hx0 hx1 m i a b w HW.out hsc hrt hm (by omega) (by omega) hi ha hb la lb hmath (by unfold Lx.spaceT Lx.numT; simp only [h6, ta, tb]; simp [h2, k6, k3]) h1 h2 h6 k6 k3 ta tb (by omega)
                · exact core_n2t2 v s l at' x hx0 hx1 m i a b w HW.out hsc hrt hm (by omega) (by omega) hi ha hb la lb hmath (by unfold Lx.spaceT Lx.numT; simp [h2, h6, k6, k3, ta]) h1 h2 h6 k6 k3 ta tb
              · exact core_n2t1 v s l at' x hx0 hx1 m i a b w HW.out hsc hrt hm (by omega) (by omega) hi ha hb la lb hmath (by unfold Lx.spaceT Lx.numT; simp [h2, h6, k6, k3]) h1 h2 h6 k6 k3 ta
        · by_cases ta : a.2 = [58]
          · by_cases tb : b.2 = [58]
            · by_cases h13 : a.1 = 13
              · exact core_n1t3 v s l at' x hx0 hx1 m i a b w HW.out hsc hrt hm (by omega) (by omega) hi ha hb la lb hmath (by unfold Lx.spaceT; simp [h13, ta, tb]) h1 h2 h6 ta tb h13
              · exact core_n1t4 v s l at' x hx0 hx1 m i a b w HW.out hsc hrt hm (by omega) (by omega) hi ha hb la lb hmath (by unfold Lx.spaceT Lx.numT; simp [h1, h2, h6, ta, tb, h13]) h1 h2 h6 ta tb h13
            · exact core_n1t2 v s l at' x hx0 hx1 m i a b w HW.out hsc hrt hm (by omega) (by omega) hi ha hb la lb hmath (by unfold Lx.spaceT Lx.numT; simp [h1, h2, h6, ta, tb]) h1 h2 h6 ta tb
          · exact core_n1t1 v s l at' x hx0 hx1 m i a b w HW.out hsc hrt hm (by omega) (by omega) hi ha hb la lb hmath (by unfold Lx.spaceT Lx.numT; simp [h1, h2, h6, ta]) h1 h2 h6 ta

set_option maxRecDepth 100000 in
theorem lifted (os : Os) (started : os.Started) (H : Type) (enc : TypeId × Value → H) :
    ReturnsInHanded {} Tryz.checked os 6 .any (fun w args => (Rows.itemsTightSpec.pre enc Tryz.prog Tryz.f6 Rows.itemsTightRow.domain false w args ∧ laidMetH Tryz.prog lx.laid w) ∧ sizedMet enc Tryz.prog Tryz.f6 (OpenSpec.ofChange Rows.itemsTightSpec) false w args) (Rows.itemsTightSpec.post enc Tryz.prog Tryz.f6 false true false false) := by
  refine returnsInHanded_of_change_and (C := Tryz.checked) (X := fun w _ => laidMetH Tryz.prog lx.laid w) (fun _ _ _ hh h => h.of_heap hh) law.own started (by kernel_rfl) Tryz.func6
    (ChangeSpec.witness_shaped (enc := enc) (C := Tryz.checked) (os := os) (X := fun w _ => laidMetH Tryz.prog lx.laid w) false (World.laidAll Tryz.prog os lx.laid) #[.slice none 0 0, .int .u8 0] 8 (World.laidAll_os _ _ _) (World.shaped_of_ZipB (by kernel_rfl) (by kernel_rfl)) (by kernel_rfl) (by kernel_rfl) (by kernel_rfl) (lx.laid_met os _)) ?_
  intro W base args ds gs before hval0 hW _ hsize0 hL _
  have hsize : (DataW.weightsEach Tryz.prog (Tryz.f6.params.toList ++ _) (ds ++ gs)).all (· ≤ reachBytes) = true := hsize0
  have hOps := lx.ops_of_laid hL
  have hval : ∀ (j : Nat) t v, Tryz.f6.params[j]? = some t → args[j]? = some v → Value.okWide Tryz.prog W .any base t v := hval0
  have hW' := hW
  obtain ⟨p, q, hA0, hV, rfl, _, _⟩ := hW
  have hA : DataW.TrodAll enc Tryz.prog W 0 (fun _ => true) true Tryz.f6.params.toList args.toList ds p := hA0
  rw [Tryz.params6] at hA hval
  obtain ⟨v0, v1, d0, d1, p0, p1, rfl, rfl, rfl, h0, h1⟩ := trodAll_two hA
  obtain ⟨rfl, rfl⟩ := trodVars_none hV
  obtain ⟨bs, hbs⟩ := law.open_bytes (hval 0 25 v0 rfl rfl) h0
  obtain ⟨x, rfl, rfl, rfl, wx⟩ := open_int Tryz.underlying5 (hval 1 5 v1 rfl rfl) h1
  have hx := law.u8_wf wx
  clear hL
  refine (walk v0 bs x hx.1 hx.2 W hbs hOps).mono fun e W' ⟨he, hb⟩ => ⟨_, he, ?_⟩
  exact law.law_post rfl hW' rfl (by kernel_rfl) (by kernel_rfl) hb

/-- ItemsTight, for every input. -/
theorem holds : Rows.ItemsTightSaid :=
  OpenClaim.holds_of_wide 6 Tryz.f6 rfl rfl rfl rfl rfl rfl rfl ⟨rfl, rfl, rfl, rfl, rfl⟩ rfl rfl rfl rfl rfl (by kernel_rfl) Tryz.func6 (by kernel_rfl)
    (of_decide_eq_true (by kernel_rfl)) (by unfold Func.isWrapper; first | (rw [if_pos (by decide +kernel)]; kernel_rfl) | (rw [if_neg (by decide +kernel)]; exact ⟨rfl, rfl⟩))
    (fun os started H enc _ => lifted os started H enc)

/-- The tied card of ItemsTight. -/
theorem card : Rows.ItemsTightCardSaid :=
  Claim7.holds_tied_plain_at .later [] [.data, .data, .pinned] true Rows.itemsTightCard.stood.harness false
    holds (fun _ h => by cases h) (by kernel_rfl) (fun _ h => by cases h) itemsTight_row_tie rfl ⟨rfl, rfl⟩ (by kernel_rfl) rfl
    (fun f fn hf hfn => by
      obtain rfl : f = 6 := Option.some.inj ((show Tryz.prog.funcNamed "subeditor/subeditorlaw05.ItemsTight" = some 6 by kernel_rfl).symm.trans hf) |>.symm
      obtain rfl : fn = Tryz.f6 := (Option.some.inj (Tryz.func6.symm.trans hfn)).symm
      exact ⟨by kernel_rfl, fun j t ht => by
        rw [Tryz.params6] at ht
        have hm := List.mem_toArray.1 (Array.mem_of_getElem? ht)
        have hall : (Tryz.f6.params.toList.all fun u => !Tryz.prog.wantsStandIn u) = true := by kernel_rfl
        rw [show Tryz.f6.params.toList = _ from congrArg Array.toList Tryz.params6] at hall
        exact (show Tryz.prog.wantsStandIn t = false by simpa using List.all_eq_true.1 hall t hm)⟩)
    (by kernel_rfl)
end Go.Proofs.YtmoamfcaokefiaaGreatDoor.itemsTight
