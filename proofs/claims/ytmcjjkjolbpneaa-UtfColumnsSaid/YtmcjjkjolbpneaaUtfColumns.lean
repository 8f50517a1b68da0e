/-
  subeditorlaw01.UtfColumns: for every input it returns true, and the arguments read as they did. No condition.
-/
import Derived.Test.YtmcjjkjolbpneaaUtfKnown
import Derived.Test.YtmcjjkjolbpneaaUtfLines
import Derived.Test.YtmcjjkjolbpneaaUtfMath
namespace Go.Proofs.Ytmcjjkjolbpneaa.utfColumns
open Go.RowKit Go.ChangeShapes Go.WideShapes Go.ChangeAt Go.ChangeMaps
open utf
set_option linter.unusedVariables false

theorem off_at (t : ByteArray) (ht : t.size ≤ 240) (line col : Int) (r : Int × Bool) (hr : Sp.offF t.data.toList line col = r) (w : World) :
    Calls Try.prog 13 #[.string t, .int .i64 line, .int .i64 col] w fun e W' => e = .returned (.tuple #[.int .i64 r.1, .bool r.2]) ∧ Below w.heap.size w W' := by
  have h := offset_calls t (by omega) line col w
  rw [hr] at h
  exact h

set_option maxRecDepth 100000 in
set_option maxHeartbeats 4000000 in
theorem walk (v : Value) (bs : List Int) (line more : Int) (hl0 : 0 ≤ line) (hl1 : line ≤ 255) (hm0 : 0 ≤ more) (hm1 : more ≤ 255) (w : World) (hv : law.BytesAt w v bs) :
    Calls Try.prog 8 #[v, .int .u8 line, .int .u8 more] w fun e w' => e = .returned (.bool true) ∧ Below w.heap.size w w' := by
  have ht := textF_size bs
  have htx := text_calls v bs w hv
  generalize textF bs = t at ht htx
  have HT := Lib.hid htx
  clear htx hv
  have hln := lines_list t (by omega)
  obtain ⟨m, hm⟩ : ∃ m, (Sp.spansOf t.data.toList).length = m := ⟨_, rfl⟩
  have hmpos : 1 ≤ m := by
    have : (Sp.spansOf t.data.toList).length ≠ 0 := fun e => Sp.spans_ne _ 0 0 0 (List.length_eq_zero_iff.1 e)
    omega
  have hmle : m ≤ 241 := by have := Sp.spans_len t.data.toList 0 0 0; rw [size_toList] at this; unfold Sp.spansOf at hm; omega
  rw [hm] at hln
  have e0 := Int.emod_nonneg line (show (m : Int) ≠ 0 by omega)
  have e1 := Int.emod_lt_of_pos line (show 0 < (m : Int) by omega)
  obtain ⟨i, hie⟩ : ∃ i : Nat, line % (m : Int) = (i : Int) := ⟨(line % (m : Int)).toNat, by omega⟩
  have him : i < m := by omega
  have hi2 : (line % (m : Int)).toNat = i := by omega
  obtain ⟨x, hx⟩ : ∃ x, (Sp.spansOf t.data.toList)[i]? = some x := ⟨_, List.getElem?_eq_getElem (by omega)⟩
  have hmem : x ∈ Sp.spansOf t.data.toList := List.mem_of_getElem? hx
  have hbd := Sp.spans_bd _ 0 0 0 (Nat.le_refl _) x hmem
  have hend := Sp.spans_end _ 0 0 0 (Nat.le_refl _) x hmem
  rw [size_toList] at hbd hend
  obtain ⟨q, hq⟩ : ∃ q, t.extract x.2.1 x.2.2 = q := ⟨_, rfl⟩
  have hqs : q.size = x.2.2 - x.2.1 := by rw [← hq, ByteArray.size_extract]; omega
  have r1 : Sp.offF t.data.toList (i : Int) (q.size : Int) = ((x.2.2 : Int), true) := by
    rw [Sp.offF_get _ _ _ hx, Sp.offIn, if_neg (by omega)]
    simp; omega
  have r2 : Sp.offF t.data.toList (i : Int) ((q.size : Int) + 1 + more) = (0, false) := by rw [Sp.offF_get _ _ _ hx, Sp.offIn, if_pos (by omega)]
  have r3 : Sp.offF t.data.toList ((m : Int) + more) 0 = (0, false) := by
    have := Sp.offF_beyond t.data.toList (m + more.toNat) (by omega) 0
    rwa [show ((m + more.toNat : Nat) : Int) = (m : Int) + more from by omega] at this
  have r4 : Sp.offF t.data.toList (i : Int) (-1 - more) = (0, false) := by rw [Sp.offF_get _ _ _ hx, Sp.offIn, if_pos (by omega)]
  have hql : q.size ≤ 240 := by omega
  have hle : decide ((x.2.2 : Int) ≤ (t.size : Int)) = true := decide_eq_true (by omega)
  have hle2 : decide (x.2.2 ≤ t.size) = true := decide_eq_true (by omega)
  have hm00 : ((m : Int) == 0) = false := by rw [beq_eq_false_iff_ne]; omega
  have HL := Lib.hid hln; have HI := Lib.hid hie; have HI2 := Lib.hid hi2; have HX := Lib.hid hx; have HQ := Lib.hid hq
  have R1 := Lib.hid r1; have R2 := Lib.hid r2; have R3 := Lib.hid r3; have R4 := Lib.hid r4
  have hxt : x.2.2 ≤ t.size := by omega
  clear hln hie hi2 hx hq r1 r2 r3 r4 hqs hm hmem
  by_cases heq : x.2.2 = t.size
  · have hb : ((x.2.2 : Int) == (t.size : Int)) = true := by rw [beq_iff_eq]; omega
    have HE := Lib.hid heq
    clear heq hend hbd
    go_enter Try.func8, Try.ntmps8
    go_wp2_with fail
    ((with_reducible refine HT.out.mono ?_); rintro e w1 ⟨rfl, hb1⟩)
    go_wp2_with fail
    ((with_reducible refine (HL.out _).mono ?_); rintro e w2 ⟨g, cap, rfl, hg0, hg1, hcells, hb2⟩)
    have hc2 : w2.cell? ⟨g, (line % (m : Int)).toNat, none⟩ = some (.string q) := by rw [HI2.out, hcells i x HX.out, lineV, HQ.out]
    have HCE := Lib.hid hcells
    clear hcells
    go_wp2_with fail
    rw [HI.out]
    ((with_reducible refine (off_at t ht _ _ _ R1.out _).mono ?_); rintro e w3 ⟨rfl, hb3⟩)
    have hc3 : w3.cell? ⟨g, i, none⟩ = some (.string q) := by rw [HI2.out] at hc2; exact (hb3.cell (p := ⟨g, i, none⟩) hg1).trans hc2
    go_wp2_with fail
    ((with_reducible refine (off_at t ht _ _ _ R2.out _).mono ?_); rintro e w4 ⟨rfl, hb4⟩)
    go_wp2_with fail
    ((with_reducible refine (off_at t ht _ _ _ R3.out _).mono ?_); rintro e w5 ⟨rfl, hb5⟩)
    go_wp2_with fail
    ((with_reducible refine (off_at t ht _ _ _ R4.out _).mono ?_); rintro e w6 ⟨rfl, hb6⟩)
    go_wp2_with fail
    ((with_reducible refine (known_calls _).mono ?_); rintro e w7 ⟨rfl, hb7⟩)
    go_wp2_with fail
    go_ret
    exact ⟨rfl, Below.next (Below.next (Below.next (Below.next (Below.next (Below.next hb1 hb2 (Nat.le_refl _)) hb3 (Nat.le_refl _)) hb4 (Nat.le_refl _)) hb5 (Nat.le_refl _)) hb6 (Nat.le_refl _)) hb7 (Nat.le_refl _)⟩
  · have hb : ((x.2.2 : Int) == (t.size : Int)) = false := by rw [beq_eq_false_iff_ne]; omega
    have hlt : x.2.2 < t.size := by omega
    have hby : (((t[x.2.2]'hlt).toNat : Int) == 10) = true := by
      rcases hend with h | ⟨_, h⟩
      · omega
      · rw [Nat.sub_zero] at h
        have h' : t.data.toList[x.2.2]'(by rw [size_toList]; exact hlt) = 10 := by
          rw [List.getElem?_eq_getElem (by rw [size_toList]; exact hlt)] at h
          exact Option.some.inj h
        have h2 : t[x.2.2]'hlt = 10 := by simp at h'; exact h'
        rw [h2]; rfl
    have HE := Lib.hid heq
    clear heq hend hbd
    go_enter Try.func8, Try.ntmps8
    go_wp2_with fail
    ((with_reducible refine HT.out.mono ?_); rintro e w1 ⟨rfl, hb1⟩)
    go_wp2_with fail
    ((with_reducible refine (HL.out _).mono ?_); rintro e w2 ⟨g, cap, rfl, hg0, hg1, hcells, hb2⟩)
    have hc2 : w2.cell? ⟨g, (line % (m : Int)).toNat, none⟩ = some (.string q) := by rw [HI2.out, hcells i x HX.out, lineV, HQ.out]
    have HCE := Lib.hid hcells
    clear hcells
    go_wp2_with fail
    rw [HI.out]
    ((with_reducible refine (off_at t ht _ _ _ R1.out _).mono ?_); rintro e w3 ⟨rfl, hb3⟩)
    have hc3 : w3.cell? ⟨g, i, none⟩ = some (.string q) := by rw [HI2.out] at hc2; exact (hb3.cell (p := ⟨g, i, none⟩) hg1).trans hc2
    go_wp2_with fail
    ((with_reducible refine (off_at t ht _ _ _ R2.out _).mono ?_); rintro e w4 ⟨rfl, hb4⟩)
    go_wp2_with fail
    ((with_reducible refine (off_at t ht _ _ _ R3.out _).mono ?_); rintro e w5 ⟨rfl, hb5⟩)
    go_wp2_with fail
    ((with_reducible refine (off_at t ht _ _ _ R4.out _).mono ?_); rintro e w6 ⟨rfl, hb6⟩)
    go_wp2_with fail
    ((with_reducible refine (known_calls _).mono ?_); rintro e w7 ⟨rfl, hb7⟩)
    go_wp2_with fail
    go_ret
    exact ⟨rfl, Below.next (Below.next (Below.next (Below.next (Below.next (Below.next hb1 hb2 (Nat.le_refl _)) hb3 (Nat.le_refl _)) hb4 (Nat.le_refl _)) hb5 (Nat.le_refl _)) hb6 (Nat.le_refl _)) hb7 (Nat.le_refl _)⟩

set_option maxRecDepth 100000 in
theorem lifted (os : Os) (started : os.Started) (H : Type) (enc : TypeId × Value → H) :
    ReturnsInHanded {} Try.checked os 8 .any (Rows.utfColumnsSpec.pre6 enc Try.prog Try.f8 Rows.utfColumnsRow.domain false) (Rows.utfColumnsSpec.post enc Try.prog Try.f8 false true false false) := by
  refine returnsInHanded_of_change (C := Try.checked) law.own started (by kernel_rfl) Try.func8
    (ChangeSpec.witness6 (enc := enc) (C := Try.checked) false ⟨#[], #[.slice none 0 0, .int .u8 0, .int .u8 0], []⟩ 8 (by kernel_rfl) (by kernel_rfl) (by kernel_rfl) (by kernel_rfl)) ?_
  intro W base args ds gs before hval0 hW _ _
  have hval : ∀ (j : Nat) t v, Try.f8.params[j]? = some t → args[j]? = some v → Value.okWide Try.prog W .any base t v := hval0
  have hW' := hW
  obtain ⟨p, q, hA0, hV, rfl, _, _⟩ := hW
  have hA : DataW.TrodAll enc Try.prog W 0 (fun _ => true) true Try.f8.params.toList args.toList ds p := hA0
  rw [Try.params8] at hA hval
  obtain ⟨v0, vs0, d0, ds0, p0, q0, hargs, rfl, rfl, h0, r0⟩ := trodAll_cons hA
  obtain ⟨v1, vs1, d1, ds1, p1, q1, rfl, rfl, rfl, h1, r1⟩ := trodAll_cons r0
  obtain ⟨v2, vs2, d2, ds2, p2, q2, rfl, rfl, rfl, h2, r2⟩ := trodAll_cons r1
  obtain ⟨rfl, rfl, rfl⟩ := trodAll_nil r2
  obtain rfl : args = #[v0, v1, v2] := by cases args; simp_all
  obtain ⟨rfl, rfl⟩ := trodVars_none hV
  obtain ⟨bs, hbs⟩ := law.open_bytes (hval 0 22 v0 rfl rfl) h0
  obtain ⟨k1, rfl, rfl, rfl, hk1⟩ := open_int Try.underlying5 (hval 1 5 v1 rfl rfl) h1
  obtain ⟨k2, rfl, rfl, rfl, hk2⟩ := open_int Try.underlying5 (hval 2 5 v2 rfl rfl) h2
  have g1 := law.u8_wf hk1
  have g2 := law.u8_wf hk2
  refine (walk v0 bs k1 k2 g1.1 g1.2 g2.1 g2.2 W hbs).mono fun e W' ⟨he, hb⟩ => ⟨_, he, ?_⟩
  exact law.law_post rfl hW' rfl (by kernel_rfl) (by kernel_rfl) hb

/-- UtfColumns, for every input. -/
theorem holds : Rows.UtfColumnsSaid :=
  OpenClaim.holds_of_wide 8 Try.f8 rfl rfl rfl rfl rfl rfl rfl ⟨rfl, rfl, rfl, rfl, rfl⟩ rfl rfl rfl rfl rfl (by kernel_rfl) Try.func8 (by kernel_rfl)
    (of_decide_eq_true (by kernel_rfl)) (by unfold Func.isWrapper; first | (rw [if_pos (by decide +kernel)]; kernel_rfl) | (rw [if_neg (by decide +kernel)]; exact ⟨rfl, rfl⟩))
    (fun os started H enc _ => lifted os started H enc)
end Go.Proofs.Ytmcjjkjolbpneaa.utfColumns
