/-
  From the rows' condition to the operators' cells: layer 4's rows list three variables.
-/
import Derived.Test.YtmoamfcaokefiaaGreatDoorLaw
import Derived.Test.YtmoamfcaokefiaaGreatDoorSgOper
import Derived.Test.YtmoamfcaokefiaaGreatDoorLxKnown
import Derived.ProofKit
import Derived.LaidMore
import Derived.Lay
import Derived.Stop.Joined
namespace Go.Proofs.YtmoamfcaokefiaaGreatDoor.lx
open sg (opsL OpsAt)
open Go.RowKit Go.ChangeShapes Go.WideShapes Go.ChangeAt
set_option linter.unusedVariables false

def laid : List (String × DataW Unit) := [("unicode/utf8.acceptRanges", Rows.laid_unicode_utf8_acceptRanges), ("subeditor/sign.operators", Rows.laid_subeditor_sign_operators), ("unicode/utf8.first", Rows.laid_unicode_utf8_first)]
theorem laid_list : (Rows.laid_subeditor_sign_operators : DataW Unit) = .agg (Sg.opers.map fun l => .lit (.string l)) := rfl

theorem opsL_get {r : Nat} (hr : r < 34) : opsL[r]? = some (.string ⟨(Sg.opers.getD r []).toArray⟩) := by
  have hl : Sg.opers.length = 34 := rfl
  simp [opsL, List.getD, hr, hl]

theorem ops_of_laid {W : World} (h : laidMetH Tryz.prog laid W) : OpsAt W := by
  rw [MakeChecks.laidMetH_plain _ _ _ (by kernel_rfl)] at h
  obtain ⟨ps, ⟨_, _, _, _, _, _, _, _, _, _, ⟨g, t, cs, fuel, p, q, hg, ht, hv, hd, _, _⟩, _⟩, _, _⟩ := h
  obtain rfl := Option.some.inj ((show Tryz.prog.globalNamed "subeditor/sign.operators" = some 1 by kernel_rfl).symm.trans hg)
  obtain rfl := Option.some.inj ((show (Tryz.prog.globals[1]?).map (·.type) = some 133 by kernel_rfl).symm.trans ht)
  obtain ⟨xs, m, _, ex, _, hl, hel⟩ := DataW.trod_array Tryz.underlying133 hd
  have c9 : Tryz.prog.cellsOf 9 = 1 := by kernel_rfl
  have hlen : Sg.opers.length = 34 := rfl
  have key : ∀ r, r < 34 → W.cell? ⟨1, r, none⟩ = some (.string ⟨(Sg.opers.getD r []).toArray⟩) := by
    intro r hr
    have hE := hel r hr
    rw [c9, Nat.mul_one, List.getElem?_eq_getElem (by omega)] at hE
    obtain ⟨z, e1, e2, _⟩ := DataW.trod_string Tryz.underlying9 hE
    rw [laid_list] at ex
    have e3 : (xs.map (·.1)) = Sg.opers.map fun l => .lit (.string l) := (DataW.agg.inj (Prod.mk.inj ex).1).symm
    have e4 : (xs.map (·.1))[r]? = (Sg.opers.map fun l => (DataW.lit (.string l) : DataW Unit))[r]? := by rw [e3]
    rw [List.getElem?_map, List.getElem?_map, List.getElem?_eq_getElem (by omega : r < xs.length), List.getElem?_eq_getElem (by omega : r < Sg.opers.length), e2] at e4
    have hz : z.data.toList = Sg.opers.getD r [] := by
      simp only [Option.map_some, Option.some.injEq, DataW.lit.injEq, Lit.string.injEq] at e4
      rw [e4, List.getD, List.getElem?_eq_getElem (by omega : r < Sg.opers.length)]; rfl
    have hz2 : z = ⟨(Sg.opers.getD r []).toArray⟩ := by rw [← hz, Lib.mk_data]
    rw [World.var?_cell hg hv r, ← hz2]
    have : cs.toList[r]? = some (.string z) := by
      have h0 : ((cs.toList.drop r).take 1)[0]? = some (.string z) := by rw [e1]; rfl
      simpa using h0
    simpa using this
  have hlt : 1 < W.heap.size := by
    rcases Nat.lt_or_ge 1 W.heap.size with h0 | h0
    · exact h0
    · have := key 0 (by decide)
      simp [World.cell?, Array.getElem?_eq_none h0] at this
  refine ⟨hlt, fun j v hj => ?_⟩
  by_cases hr : j < 34
  · rw [opsL_get hr] at hj
    rw [Nat.zero_add, key j hr]; exact hj
  · have : opsL.length = 34 := rfl
    rw [List.getElem?_eq_none (by omega)] at hj
    cases hj

set_option maxRecDepth 100000 in
theorem laid_met (os : Os) (args : Array Value) : laidMetH Tryz.prog laid ((World.laidAll Tryz.prog os laid).forCall (fun _ _ => 0) ⟨#[], args, []⟩).memory := by
  rw [MakeChecks.laidMetH_plain _ _ _ (by kernel_rfl)]; exact laidMet_laidAll _ (by kernel_rfl) (by kernel_rfl)

theorem ToksAt.some {W : World} {n : Nat} {v : Value} {l : List Lx.Tok} (h : ToksAt W n v l) (hl : l ≠ []) : ∃ g cap, v = .slice (some ⟨g, 0, none⟩) l.length cap ∧ g < n ∧
    ∀ (j : Nat) t, l[j]? = some t → W.cell? ⟨g, j * 2, none⟩ = some (.int .i64 t.1) ∧ W.cell? ⟨g, j * 2 + 1, none⟩ = some (.string ⟨t.2.toArray⟩) := by
  obtain ⟨ao, cap, rfl, hc⟩ := h
  cases l with
  | nil => exact absurd rfl hl
  | cons a r =>
    obtain ⟨g, rfl, hg, _⟩ := hc 0 a rfl
    refine ⟨g, cap, rfl, hg, fun j t ht => ?_⟩
    obtain ⟨g', e, _, c0, c1⟩ := hc j t ht
    cases e
    exact ⟨c0, c1⟩

set_option maxRecDepth 100000 in
set_option maxHeartbeats 4000000 in
theorem known_calls (w : World) (hw : OpsAt w) : Calls Tryz.prog 22 #[] w fun e W' => e = .returned (.bool true) ∧ Below w.heap.size w W' := by
  have k1 := known1 w hw
  have HW := Lib.hid hw
  clear hw
  go_enter Tryz.func22, Tryz.ntmps22
  go_wp2_with fail
  ((with_reducible refine k1.mono ?_); rintro e w1 ⟨v, rfl, ht, hb1⟩)
  obtain ⟨g, cap, rfl, hg, hc⟩ := ht.some (by decide)
  have k2 := known2 w1 (HW.out.own hb1)
  go_wp2_with fail
  ((with_reducible refine k2.mono ?_); rintro e w2 ⟨v2, rfl, ht2, hb2⟩)
  obtain ⟨ao2, cap2, rfl, _⟩ := ht2
  have c0 : w2.cell? ⟨g, 0, none⟩ = some (.int .i64 4) := (hb2.cell (p := ⟨g, 0, none⟩) hg).trans (hc 0 _ rfl).1
  have c2 : w2.cell? ⟨g, 4, none⟩ = some (.int .i64 7) := (hb2.cell (p := ⟨g, 4, none⟩) hg).trans (hc 2 _ rfl).1
  have c3 : w2.cell? ⟨g, 7, none⟩ = some (.string ⟨#[120]⟩) := (hb2.cell (p := ⟨g, 7, none⟩) hg).trans (hc 3 _ rfl).2
  have c6 : w2.cell? ⟨g, 12, none⟩ = some (.int .i64 10) := (hb2.cell (p := ⟨g, 12, none⟩) hg).trans (hc 6 _ rfl).1
  have c7 : w2.cell? ⟨g, 14, none⟩ = some (.int .i64 11) := (hb2.cell (p := ⟨g, 14, none⟩) hg).trans (hc 7 _ rfl).1
  have hbt := hb1.trans (hb2.mono hb1.size)
  have HB := Lib.hid hbt
  clear hc hb1 hb2 hbt k1 k2 ht
  go_wp2_with fail
  go_ret
  exact ⟨by simp; try decide, HB.out⟩
end Go.Proofs.YtmoamfcaokefiaaGreatDoor.lx
