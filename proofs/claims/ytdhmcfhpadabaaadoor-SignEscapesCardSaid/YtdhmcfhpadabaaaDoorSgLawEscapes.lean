/-
  subeditorlaw03.SignEscapes: for every input it returns true, and the arguments read as they did. No condition.
-/
import Derived.Test.YtdhmcfhpadabaaaDoorSgHelp
import Derived.Test.YtdhmcfhpadabaaaDoorCards
import Derived.Test.YtdhmcfhpadabaaaDoorTie
import Derived.SevenTiedAt
import Derived.Deep.RegionHeld
import Derived.Deep.CutRange
import Derived.Deep.Cut
import Derived.Deep.QuietTactic
import Derived.BigQuiet
import Derived.Laws.BitsLemmas
namespace Go.Proofs.YtdhmcfhpadabaaaDoor.signEscapes
open Go.RowKit Go.ChangeShapes Go.WideShapes Go.ChangeAt Go.ChangeMaps
open sg
set_option linter.unusedVariables false


theorem conv_at {w : World} {B : Nat} {x : Int} (h : w.cell? ⟨B, 0, none⟩ = some (.int .u8 x)) : (convert 22 9 (.slice (some ⟨B, 0, none⟩) 1 1)).run Tryd.prog w = .ok (.string (byteB x)) w :=
  run_convert_bytes_arg _ 22 5 Tryd.underlying22 Tryd.underlying5 B 0 1 1 [x] rfl
    (fun i hi => by obtain rfl : i = 0 := by omega
                    exact h) 9 Tryd.underlying9
theorem u16_in {n : Int} (h0 : 0 ≤ n) (h1 : n ≤ 65535) : IntKind.u16.wrap n = n := by simp [IntKind.wrap, IntKind.signed, IntKind.bits]; omega
theorem p16 : (2 : Int) ^ 16 = 65536 := by decide
theorem and15 {n : Int} (h0 : 0 ≤ n) (h1 : n ≤ 65535) : bits .and .u16 n 15 = n % 16 := by
  have h := bits_mask .u16 16 (by decide) (fun m h0 h1 => u16_in h0 (by rw [p16] at h1; omega)) 4 (by decide) n h0 (by rw [p16]; omega)
  have e : ((2 : Int) ^ 4 - 1) = 15 := by decide
  have e2 : ((2 : Int) ^ 4) = 16 := by decide
  rw [e, e2] at h
  exact h
theorem u16_wf {n : Int} (h : (Lit.int .u16 n).wf = true) : 0 ≤ n ∧ n ≤ 65535 := by simpa [Lit.wf, IntKind.min, IntKind.max, IntKind.signed, IntKind.bits] using h

theorem low_ok : ∀ k : Fin 16, (⟨#[48, 49, 50, 51, 52, 53, 54, 55, 56, 57, 97, 98, 99, 100, 101, 102]⟩ : ByteArray).extract k.1 (k.1 + 1) = ⟨#[(#[48, 49, 50, 51, 52, 53, 54, 55, 56, 57, 97, 98, 99, 100, 101, 102] : Array UInt8).getD k.1 0]⟩ ∧ Sg.cH (((#[48, 49, 50, 51, 52, 53, 54, 55, 56, 57, 97, 98, 99, 100, 101, 102] : Array UInt8).getD k.1 0).toNat : Int) = true := by decide +kernel
theorem up_ok : ∀ k : Fin 16, (⟨#[48, 49, 50, 51, 52, 53, 54, 55, 56, 57, 65, 66, 67, 68, 69, 70]⟩ : ByteArray).extract k.1 (k.1 + 1) = ⟨#[(#[48, 49, 50, 51, 52, 53, 54, 55, 56, 57, 65, 66, 67, 68, 69, 70] : Array UInt8).getD k.1 0]⟩ ∧ Sg.cH (((#[48, 49, 50, 51, 52, 53, 54, 55, 56, 57, 65, 66, 67, 68, 69, 70] : Array UInt8).getD k.1 0).toNat : Int) = true := by decide +kernel
def tabF (g : Bool) (k : Nat) : UInt8 := if g then (#[48, 49, 50, 51, 52, 53, 54, 55, 56, 57, 65, 66, 67, 68, 69, 70] : Array UInt8).getD k 0 else (#[48, 49, 50, 51, 52, 53, 54, 55, 56, 57, 97, 98, 99, 100, 101, 102] : Array UInt8).getD k 0
def tab (g : Bool) : ByteArray := if g then ⟨#[48, 49, 50, 51, 52, 53, 54, 55, 56, 57, 65, 66, 67, 68, 69, 70]⟩ else ⟨#[48, 49, 50, 51, 52, 53, 54, 55, 56, 57, 97, 98, 99, 100, 101, 102]⟩
theorem tab_ok (g : Bool) : ∀ k : Fin 16, (tab g).extract k.1 (k.1 + 1) = ⟨#[tabF g k.1]⟩ ∧ Sg.cH ((tabF g k.1).toNat : Int) = true := by
  cases g with
  | true => exact up_ok
  | false => exact low_ok
theorem tab_size (g : Bool) : (tab g).size = 16 := by cases g <;> rfl
theorem digit_of {T : ByteArray} {f : Nat → UInt8} (h : ∀ k : Fin 16, T.extract k.1 (k.1 + 1) = ⟨#[f k.1]⟩ ∧ Sg.cH ((f k.1).toNat : Int) = true) {q r : Int} (h0 : 0 ≤ q) (h1 : q ≤ 15) (hr : q + 1 = r) :
    ∃ x : UInt8, T.extract q.toNat r.toNat = ⟨#[x]⟩ ∧ Sg.cH (x.toNat : Int) = true := by
  have := h ⟨q.toNat, by omega⟩
  have e : r.toNat = q.toNat + 1 := by omega
  rw [e]
  exact ⟨_, this⟩

/-- The text that the law makes, and what is asked of it. -/
structure Made (S : ByteArray) : Prop where
  size : S.size = 6
  e1 : Sg.escape S.data.toList = 6
  e2 : Sg.escape (S ++ ⟨#[48]⟩).data.toList = 6
  e3 : Sg.escape (S.extract 0 5).data.toList = 0
  e4 : ∀ (b i i1 : Int), 0 ≤ b → b ≤ 255 → 2 ≤ i → i ≤ 5 → i + 1 = i1 → Sg.escape (S.extract 0 i.toNat ++ byteB b ++ S.extract i1.toNat S.size).data.toList = if Sg.cH b then 6 else 0
theorem made (a b c d : UInt8) (ha : Sg.cH (a.toNat : Int) = true) (hb : Sg.cH (b.toNat : Int) = true) (hc : Sg.cH (c.toNat : Int) = true) (hd : Sg.cH (d.toNat : Int) = true) :
    Made (⟨#[92, 117]⟩ ++ ⟨#[a]⟩ ++ ⟨#[b]⟩ ++ ⟨#[c]⟩ ++ ⟨#[d]⟩) := by
  have e : ((⟨#[92, 117]⟩ : ByteArray) ++ ⟨#[a]⟩ ++ ⟨#[b]⟩ ++ ⟨#[c]⟩ ++ ⟨#[d]⟩) = ⟨#[92, 117, a, b, c, d]⟩ := by
    rw [← Lib.mk_data ((⟨#[92, 117]⟩ : ByteArray) ++ ⟨#[a]⟩ ++ ⟨#[b]⟩ ++ ⟨#[c]⟩ ++ ⟨#[d]⟩)]
    simp only [append_data]; rfl
  rw [e]
  refine ⟨rfl, ?_, ?_, ?_, ?_⟩
  · show Sg.escape [92, 117, a, b, c, d] = 6
    rw [Sg.escape_six, ha, hb, hc, hd]; rfl
  · rw [append_data]
    show Sg.escape [92, 117, a, b, c, d, 48] = 6
    rw [Sg.escape_six, ha, hb, hc, hd]; rfl
  · rw [extract_take]
    show Sg.escape [92, 117, a, b, c] = 0
    exact Sg.escape_five a b c
  · intro x i i1 h0 h1 h2 h5 hi
    have hx := byte_nat h0 h1
    rw [append_data, append_data, extract_take, extract_drop, byteB_data]
    have : i = 2 ∨ i = 3 ∨ i = 4 ∨ i = 5 := by omega
    rcases this with rfl | rfl | rfl | rfl <;> (subst hi)
    · show Sg.escape [92, 117, UInt8.ofNat x.toNat, b, c, d] = _
      rw [Sg.escape_six, hb, hc, hd, hx]; simp
    · show Sg.escape [92, 117, a, UInt8.ofNat x.toNat, c, d] = _
      rw [Sg.escape_six, ha, hc, hd, hx]; simp
    · show Sg.escape [92, 117, a, b, UInt8.ofNat x.toNat, d] = _
      rw [Sg.escape_six, ha, hb, hd, hx]; simp
    · show Sg.escape [92, 117, a, b, c, UInt8.ofNat x.toNat] = _
      rw [Sg.escape_six, ha, hb, hc, hx]; simp

set_option maxRecDepth 100000 in
set_option maxHeartbeats 8000000 in
theorem walk (n a b : Int) (g : Bool) (hn : 0 ≤ n ∧ n ≤ 65535) (ha : 0 ≤ a ∧ a ≤ 255) (hb : 0 ≤ b ∧ b ≤ 255) (w : World) (hw : OpsAt w) :
    Calls Tryd.prog 6 #[.int .u16 n, .int .u8 a, .int .u8 b, .bool g] w fun e W' => e = .returned (.bool true) ∧ Below w.heap.size w W' := by
  have hts := tab_size g
  obtain ⟨q3, hq3⟩ : ∃ q, n / 4096 = q := ⟨_, rfl⟩
  obtain ⟨r3, hr3⟩ : ∃ r, q3 + 1 = r := ⟨_, rfl⟩
  have k3 : IntKind.u16.wrap (q3 + 1) = r3 := by rw [hr3]; exact u16_in (by omega) (by omega)
  obtain ⟨x3, hx3, hc3⟩ := digit_of (T := tab g) (f := tabF g) (tab_ok g) (q := q3) (by omega) (by omega) hr3
  obtain ⟨X3, hX3⟩ : ∃ X, X = (⟨#[x3]⟩ : ByteArray) := ⟨_, rfl⟩
  rw [← hX3] at hx3
  have z3 : X3.size = 1 := by rw [hX3]; rfl
  have a3 : 0 ≤ q3 := by omega
  have b3 : q3 ≤ r3 := by omega
  have c3 : r3 ≤ 16 := by omega
  have d3 : 0 ≤ r3 := by omega
  obtain ⟨m2, hm2⟩ : ∃ q, n / 256 = q := ⟨_, rfl⟩
  obtain ⟨q2, hq2⟩ : ∃ q, bits .and .u16 m2 15 = q := ⟨_, rfl⟩
  have g2 : q2 = m2 % 16 := by rw [← hq2]; exact and15 (by omega) (by omega)
  obtain ⟨r2, hr2⟩ : ∃ r, q2 + 1 = r := ⟨_, rfl⟩
  have k2 : IntKind.u16.wrap (q2 + 1) = r2 := by rw [hr2]; exact u16_in (by omega) (by omega)
  obtain ⟨x2, hx2, hc2⟩ := digit_of (T := tab g) (f := tabF g) (tab_ok g) (q := q2) (by omega) (by omega) hr2
  obtain ⟨X2, hX2⟩ : ∃ X, X = (⟨#[x2]⟩ : ByteArray) := ⟨_, rfl⟩
  rw [← hX2] at hx2
  have z2 : X2.size = 1 := by rw [hX2]; rfl
  have a2 : 0 ≤ q2 := by omega
  have b2 : q2 ≤ r2 := by omega
  have c2 : r2 ≤ 16 := by omega
  have d2 : 0 ≤ r2 := by omega
  obtain ⟨m1, hm1⟩ : ∃ q, n / 16 = q := ⟨_, rfl⟩
  obtain ⟨q1, hq1⟩ : ∃ q, bits .and .u16 m1 15 = q := ⟨_, rfl⟩
  have g1 : q1 = m1 % 16 := by rw [← hq1]; exact and15 (by omega) (by omega)
  obtain ⟨r1, hr1⟩ : ∃ r, q1 + 1 = r := ⟨_, rfl⟩
  have k1 : IntKind.u16.wrap (q1 + 1) = r1 := by rw [hr1]; exact u16_in (by omega) (by omega)
  obtain ⟨x1, hx1, hc1⟩ := digit_of (T := tab g) (f := tabF g) (tab_ok g) (q := q1) (by omega) (by omega) hr1
  obtain ⟨X1, hX1⟩ : ∃ X, X = (⟨#[x1]⟩ : ByteArray) := ⟨_, rfl⟩
  rw [← hX1] at hx1
  have z1 : X1.size = 1 := by rw [hX1]; rfl
  have a1 : 0 ≤ q1 := by omega
  have b1 : q1 ≤ r1 := by omega
  have c1 : r1 ≤ 16 := by omega
  have d1 : 0 ≤ r1 := by omega
  obtain ⟨q0, hq0⟩ : ∃ q, bits .and .u16 n 15 = q := ⟨_, rfl⟩
  have g0 : q0 = n % 16 := by rw [← hq0]; exact and15 (by omega) (by omega)
  obtain ⟨r0, hr0⟩ : ∃ r, q0 + 1 = r := ⟨_, rfl⟩
  have k0 : IntKind.u16.wrap (q0 + 1) = r0 := by rw [hr0]; exact u16_in (by omega) (by omega)
  obtain ⟨x0, hx0, hc0⟩ := digit_of (T := tab g) (f := tabF g) (tab_ok g) (q := q0) (by omega) (by omega) hr0
  obtain ⟨X0, hX0⟩ : ∃ X, X = (⟨#[x0]⟩ : ByteArray) := ⟨_, rfl⟩
  rw [← hX0] at hx0
  have z0 : X0.size = 1 := by rw [hX0]; rfl
  have a0 : 0 ≤ q0 := by omega
  have b0 : q0 ≤ r0 := by omega
  have c0 : r0 ≤ 16 := by omega
  have d0 : 0 ≤ r0 := by omega
  have hM := made x3 x2 x1 x0 hc3 hc2 hc1 hc0
  rw [← hX3, ← hX2, ← hX1, ← hX0] at hM
  obtain ⟨S3, hS3⟩ : ∃ S, (⟨#[92, 117]⟩ : ByteArray) ++ X3 = S := ⟨_, rfl⟩
  have y3 : ¬ (9223372036854775807 < (⟨#[92, 117]⟩ : ByteArray).size + X3.size) := by rw [z3]; decide
  have s3 : S3.size = 3 := by rw [← hS3, ByteArray.size_append, z3]; rfl
  rw [hS3] at hM
  obtain ⟨S2, hS2⟩ : ∃ S, (S3 : ByteArray) ++ X2 = S := ⟨_, rfl⟩
  have y2 : ¬ (9223372036854775807 < (S3 : ByteArray).size + X2.size) := by rw [z2, s3]; decide
  have s2 : S2.size = 4 := by rw [← hS2, ByteArray.size_append, z2, s3]
  rw [hS2] at hM
  obtain ⟨S1, hS1⟩ : ∃ S, (S2 : ByteArray) ++ X1 = S := ⟨_, rfl⟩
  have y1 : ¬ (9223372036854775807 < (S2 : ByteArray).size + X1.size) := by rw [z1, s2]; decide
  have s1 : S1.size = 5 := by rw [← hS1, ByteArray.size_append, z1, s2]
  rw [hS1] at hM
  obtain ⟨S0, hS0⟩ : ∃ S, (S1 : ByteArray) ++ X0 = S := ⟨_, rfl⟩
  have y0 : ¬ (9223372036854775807 < (S1 : ByteArray).size + X0.size) := by rw [z0, s1]; decide
  have s0 : S0.size = 6 := by rw [← hS0, ByteArray.size_append, z0, s1]
  rw [hS0] at hM
  obtain ⟨T, hT⟩ : ∃ T, tab g = T := ⟨_, rfl⟩
  rw [hT] at hx3 hx2 hx1 hx0 hts
  have HT := Lib.hid hT
  have hts2 : (T.size : Int) = 16 := by omega
  have t0 : r0 ≤ (T.size : Int) := by omega
  have t1 : r1 ≤ (T.size : Int) := by omega
  have t2 : r2 ≤ (T.size : Int) := by omega
  have t3 : r3 ≤ (T.size : Int) := by omega
  clear hT hX3 hX2 hX1 hX0 hc3 hc2 hc1 hc0 g2 g1 g0 hr3 hr2 hr1 hr0
  obtain ⟨qa, hqa⟩ : ∃ q, a % 4 = q := ⟨_, rfl⟩
  obtain ⟨I, hI⟩ : ∃ I, 2 + qa = I := ⟨_, rfl⟩
  obtain ⟨I1, hI1⟩ : ∃ I1, I + 1 = I1 := ⟨_, rfl⟩
  have hi2 : 2 ≤ I := by omega
  have hi5 : I ≤ 5 := by omega
  have hi0 : 0 ≤ I := by omega
  have hi6 : I1 ≤ 6 := by omega
  have hi7 : 0 ≤ I1 := by omega
  have hi8 : I1 ≤ (S0.size : Int) := by omega
  have hi9 : I ≤ (S0.size : Int) := by omega
  have h5s : (5 : Int) ≤ (S0.size : Int) := by omega
  have w64 : wrap64 (I + 1) = I1 := by rw [hI1]; exact IntWalk.wrap64_in _ (by omega)
  have w64' : IntKind.i64.wrap (I + 1) = I1 := (IntWalk.i64_left _).trans w64
  have hq0' : 0 ≤ qa := by omega
  have hq1' : qa ≤ 3 := by omega
  have hz1 : (S0.extract 0 I.toNat).size ≤ 6 := by rw [ByteArray.size_extract]; omega
  have hz2 : (S0.extract 0 I.toNat ++ byteB b).size ≤ 7 := by rw [ByteArray.size_append, byteB_size]; omega
  have hz3 : (S0.extract I1.toNat S0.size).size ≤ 6 := by rw [ByteArray.size_extract]; omega
  have hz4 : (S0.extract 0 I.toNat ++ byteB b ++ S0.extract I1.toNat S0.size).size ≤ 140737488351232 := by rw [ByteArray.size_append]; omega
  have v1 : ¬ (9223372036854775807 < S0.size + (⟨#[48]⟩ : ByteArray).size) := by rw [s0]; decide
  obtain ⟨P, hP⟩ : ∃ P, S0.extract 0 I.toNat = P := ⟨_, rfl⟩
  obtain ⟨Q, hQ⟩ : ∃ Q, S0.extract I1.toNat 6 = Q := ⟨_, rfl⟩
  obtain ⟨M, hPB⟩ : ∃ M, P ++ byteB b = M := ⟨_, rfl⟩
  rw [hP] at hz1 hz2 hz4
  rw [s0, hQ] at hz3 hz4
  rw [hPB] at hz2 hz4
  have v2 : ¬ (9223372036854775807 < P.size + (byteB b).size) := by rw [byteB_size]; omega
  have v3 : ¬ (9223372036854775807 < M.size + Q.size) := by omega
  have C1 := Lib.hid (fun w => escape_is S0 (by omega) 6 hM.e1 w)
  have C2 := Lib.hid (fun w => escape_is (S0 ++ ⟨#[48]⟩) (by rw [ByteArray.size_append, s0]; decide) 6 hM.e2 w)
  have C3 := Lib.hid (fun w => escape_is (S0.extract 0 5) (by rw [ByteArray.size_extract]; omega) 0 hM.e3 w)
  have HW := Lib.hid hw
  have hconv : ∀ W B, World.cell? W ⟨B, 0, none⟩ = some (.int .u8 b) → (convert 22 9 (.slice (some ⟨B, 0, none⟩) 1 1)).run Tryd.prog W = .ok (.string (byteB b)) W := fun W B h => conv_at h
  have HK := Lib.hid (fun k => known_calls (w.drewN k) (hw.own ⟨rfl, rfl, rfl, Nat.le_refl _, fun _ _ => rfl⟩))
  obtain ⟨c, hc⟩ : ∃ c, Sg.cH b = c := ⟨_, rfl⟩
  obtain ⟨R, hR⟩ : ∃ R : Nat, (if c then 6 else 0) = R := ⟨_, rfl⟩
  have h4 := hM.e4 b I I1 hb.1 hb.2 hi2 hi5 hI1
  rw [hc, hR, hP, s0, hQ, hPB] at h4
  have tR : ((R : Int) == 6) = c := by rw [← hR]; cases c <;> rfl
  have C4 := Lib.hid (fun w => escape_is (M ++ Q) hz4 R h4 w)
  have HC := Lib.hid hc; have TR := Lib.hid tR
  clear hw h4 hc hR tR hz1 hz2 hz3 hz4 hi2 hi5 hM hI1 hn
  go_enter Tryd.func6, Tryd.ntmps6
  go_upto_if 13 with fail
  go_cut [9] from 13 to 13 (fun t wx => t = .string T ∧ wx = w)
  case first =>
    cases g with
    | true =>
      have e : T = (⟨#[48, 49, 50, 51, 52, 53, 54, 55, 56, 57, 65, 66, 67, 68, 69, 70]⟩ : ByteArray) := HT.out.symm
      go_wp2_with fail
      go_meet
      exact ⟨by rw [e], rfl⟩
    | false =>
      have e : T = (⟨#[48, 49, 50, 51, 52, 53, 54, 55, 56, 57, 97, 98, 99, 100, 101, 102]⟩ : ByteArray) := HT.out.symm
      go_wp2_with fail
      go_meet
      exact ⟨by rw [e], rfl⟩
  case rest =>
  obtain ⟨rfl, hwx⟩ := hcut
  rw [hwx]
  clear hwx
  go_upto_region 4 with fail
  go_quiet (fail)
  rename_i nq
  go_upto_region 6 with fail
  go_cut [10, 11, 12] from 13 to 75 (fun s i c' wx => s = .string S0 ∧ i = .int .i64 I ∧ c' = .bool c ∧ wx = w.drewN nq)
  case first =>
    clear HT hts hts2 t0 t1 t2 t3 hx3 hx2 hx1 hx0 y3 y2 y1 y0 k3 k2 k1 k0 hS3 hS2 hS1 hS0 z3 z2 z1 z0 s3 s2 s1 a3 a2 a1 a0 b3 b2 b1 b0 c3 c2 c1 c0 d3 d2 d1 d0 hq3 hq2 hq1 hq0 hm2 hm1 v1 v2 v3 C1 C2 C3 C4 HW HK hconv hi0 hi6 hi7 hi8 hi9 h5s w64 w64' hq0' hq1' TR ha hP hQ hPB
    go_wp2_with fail
    all_goals go_meet
    all_goals refine ⟨rfl, rfl, congrArg Value.bool (?_ : _ = c), rfl⟩
    all_goals rw [← HC.out, Bool.eq_iff_iff]
    all_goals simp [Sg.cH, Sg.cD]
    all_goals omega
  case rest =>
    obtain ⟨rfl, rfl, rfl, rfl⟩ := hcut
    have tR := TR.out
    clear HT hts hts2 t0 t1 t2 t3 hx3 hx2 hx1 hx0 y3 y2 y1 y0 k3 k2 k1 k0 hS3 hS2 hS1 hS0 z3 z2 z1 z0 s3 s2 s1 a3 a2 a1 a0 b3 b2 b1 b0 c3 c2 c1 c0 d3 d2 d1 d0 hq3 hq2 hq1 hq0 hm2 hm1 hqa hI hq0' hq1' hi6 HC TR HW ha
    go_wp2_with fail
    go_region_held (fun w' => True) (trivial) (first
      | (go_at_call 10; with_reducible refine (HK.out _).mono ?_; rintro e u1 ⟨rfl, g1⟩)
      | (go_at_call 21; with_reducible refine (C1.out _).mono ?_; rintro e u2 ⟨rfl, g2⟩)
      | (go_at_call 21; with_reducible refine (C2.out _).mono ?_; rintro e u3 ⟨rfl, g3⟩)
      | (go_at_call 21; with_reducible refine (C3.out _).mono ?_; rintro e u4 ⟨rfl, g4⟩)
      | (go_at_call 21; with_reducible refine (C4.out _).mono ?_; rintro e u5 ⟨rfl, g5⟩))
    all_goals go_wp2_with fail
    all_goals go_ret
    all_goals exact ⟨rfl, Below.next ((Below.next (Below.next (Below.next (Below.next (show Below w.heap.size w (w.drewN (nq + 1)) from ⟨rfl, rfl, rfl, Nat.le_refl _, fun _ _ => rfl⟩) g1 (Nat.le_refl _)) g2 (Nat.le_refl _)) g3 (Nat.le_refl _)) g4 (Nat.le_refl _)).alloc (Nat.le_trans g1.size (Nat.le_trans g2.size (Nat.le_trans g3.size g4.size))) _) g5 (Nat.le_refl _)⟩

set_option maxRecDepth 100000 in
theorem door_met (os : Os) (args : Array Value) : laidMetH Tryd.prog laid ((World.doorLaid Tryd.prog 14 os).forCall (fun _ _ => 0) ⟨#[], args, []⟩).memory :=
  laidMetH_of_parts3 (fuel := 8) (laidMet_of_run' 8 (by kernel_rfl) (by kernel_rfl)) (by kernel_rfl) (by kernel_rfl)

set_option maxRecDepth 100000 in
theorem lifted (os : Os) (started : os.Started) (H : Type) (enc : TypeId × Value → H) :
    ReturnsInHanded {} Tryd.checked os 6 .any (fun w args => (Rows.signEscapesSpec.pre enc Tryd.prog Tryd.f6 Rows.signEscapesRow.domain false w args ∧ laidMetH Tryd.prog laid w) ∧ sizedMet enc Tryd.prog Tryd.f6 (OpenSpec.ofChange Rows.signEscapesSpec) false w args) (Rows.signEscapesSpec.post enc Tryd.prog Tryd.f6 false true false false) := by
  refine returnsInHanded_of_change_and (C := Tryd.checked) (X := fun w _ => laidMetH Tryd.prog laid w) (fun _ _ _ hh h => h.of_heap hh) law.own started (by kernel_rfl) Tryd.func6
    (ChangeSpec.witness_shaped (enc := enc) (C := Tryd.checked) (os := os) (X := fun w _ => laidMetH Tryd.prog laid w) false (World.doorLaid Tryd.prog 14 os) #[.int .u16 0, .int .u8 0, .int .u8 0, .bool false] 8 rfl (World.shaped_of_RefB (by kernel_rfl) (by kernel_rfl)) (by kernel_rfl) (by kernel_rfl) (by kernel_rfl) (door_met os _)) ?_
  intro W base args ds gs before hval0 hW _ hsize0 hL _
  have hsize : (DataW.weightsEach Tryd.prog (Tryd.f6.params.toList ++ _) (ds ++ gs)).all (· ≤ reachBytes) = true := hsize0
  have hOps := ops_of_laid hL
  have hval : ∀ (j : Nat) t v, Tryd.f6.params[j]? = some t → args[j]? = some v → Value.okWide Tryd.prog W .any base t v := hval0
  have hW' := hW
  obtain ⟨p, q, hA0, hV, rfl, _, _⟩ := hW
  have hA : DataW.TrodAll enc Tryd.prog W 0 (fun _ => true) true Tryd.f6.params.toList args.toList ds p := hA0
  rw [Tryd.params6] at hA hval
  obtain ⟨v0, vs0, d0, ds0, p0, q0, hargs, rfl, rfl, h0, r0⟩ := trodAll_cons hA
  obtain ⟨v1, vs1, d1, ds1, p1, q1, rfl, rfl, rfl, h1, r1⟩ := trodAll_cons r0
  obtain ⟨v2, vs2, d2, ds2, p2, q2, rfl, rfl, rfl, h2, r2⟩ := trodAll_cons r1
  obtain ⟨v3, vs3, d3, ds3, p3, q3, rfl, rfl, rfl, h3, r3⟩ := trodAll_cons r2
  obtain ⟨rfl, rfl, rfl⟩ := trodAll_nil r3
  obtain rfl : args = #[v0, v1, v2, v3] := by cases args; simp_all
  obtain ⟨rfl, rfl⟩ := trodVars_none hV
  obtain ⟨x0, rfl, rfl, rfl, wx0⟩ := open_int Tryd.underlying31 (hval 0 31 v0 rfl rfl) h0
  obtain ⟨x1, rfl, rfl, rfl, wx1⟩ := open_int Tryd.underlying5 (hval 1 5 v1 rfl rfl) h1
  obtain ⟨x2, rfl, rfl, rfl, wx2⟩ := open_int Tryd.underlying5 (hval 2 5 v2 rfl rfl) h2
  obtain ⟨x3, rfl, rfl, rfl⟩ := open_bool Tryd.underlying4 (hval 3 4 v3 rfl rfl) h3
  clear hL
  refine (walk x0 x1 x2 x3 (u16_wf wx0) (law.u8_wf wx1) (law.u8_wf wx2) W hOps).mono fun e W' ⟨he, hb⟩ => ⟨_, he, ?_⟩
  exact law.law_post rfl hW' rfl (by kernel_rfl) (by kernel_rfl) hb

/-- SignEscapes, for every input. -/
theorem holds : Rows.SignEscapesSaid :=
  OpenClaim.holds_of_wide 6 Tryd.f6 rfl rfl rfl rfl rfl rfl rfl ⟨rfl, rfl, rfl, rfl, rfl⟩ rfl rfl rfl rfl rfl (by kernel_rfl) Tryd.func6 (by kernel_rfl)
    (of_decide_eq_true (by kernel_rfl)) (by unfold Func.isWrapper; first | (rw [if_pos (by decide +kernel)]; kernel_rfl) | (rw [if_neg (by decide +kernel)]; exact ⟨rfl, rfl⟩))
    (fun os started H enc _ => lifted os started H enc)

/-- The tied card of SignEscapes. -/
theorem card : Rows.SignEscapesCardSaid :=
  Claim7.holds_tied_plain_at .later [] [.data] true Rows.signEscapesCard.stood.harness false
    holds (fun _ h => by cases h) (by kernel_rfl) (fun _ h => by cases h) signEscapes_row_tie rfl ⟨rfl, rfl⟩ (by kernel_rfl) rfl
    (fun f fn hf hfn => by
      obtain rfl : f = 6 := Option.some.inj ((show Tryd.prog.funcNamed "subeditor/subeditorlaw03.SignEscapes" = some 6 by kernel_rfl).symm.trans hf) |>.symm
      obtain rfl : fn = Tryd.f6 := (Option.some.inj (Tryd.func6.symm.trans hfn)).symm
      exact ⟨by kernel_rfl, fun j t ht => by
        rw [Tryd.params6] at ht
        have hm := List.mem_toArray.1 (Array.mem_of_getElem? ht)
        have hall : (Tryd.f6.params.toList.all fun u => !Tryd.prog.wantsStandIn u) = true := by kernel_rfl
        rw [show Tryd.f6.params.toList = _ from congrArg Array.toList Tryd.params6] at hall
        exact (show Tryd.prog.wantsStandIn t = false by simpa using List.all_eq_true.1 hall t hm)⟩)
    (by kernel_rfl)
end Go.Proofs.YtdhmcfhpadabaaaDoor.signEscapes
