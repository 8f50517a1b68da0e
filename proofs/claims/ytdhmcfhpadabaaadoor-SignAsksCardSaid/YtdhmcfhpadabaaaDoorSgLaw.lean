/-
  From the rows' condition to the table's cells.
-/
import Derived.Test.YtdhmcfhpadabaaaDoorLaw
import Derived.Test.YtdhmcfhpadabaaaDoorSgOper
import Derived.Test.YtdhmcfhpadabaaaDoorSgKey
import Derived.ProofKit
import Derived.LaidMore
import Derived.Lay
import Derived.Stop.Joined
namespace Go.Proofs.YtdhmcfhpadabaaaDoor.sg
open Go.RowKit Go.ChangeShapes Go.WideShapes Go.ChangeAt
set_option linter.unusedVariables false

def laid : List (String × DataW Unit) := [("subeditor/sign.operators", Rows.laid_subeditor_sign_operators)]
theorem laid_list : (Rows.laid_subeditor_sign_operators : DataW Unit) = .agg (Sg.opers.map fun l => .lit (.string l)) := rfl

theorem opsL_get {r : Nat} (hr : r < 34) : opsL[r]? = some (.string ⟨(Sg.opers.getD r []).toArray⟩) := by
  have hl : Sg.opers.length = 34 := rfl
  simp [opsL, List.getD, hr, hl]

theorem ops_of_laid {W : World} (h : laidMetH Tryd.prog laid W) : OpsAt W := by
  rw [MakeChecks.laidMetH_plain _ _ _ (by kernel_rfl)] at h
  obtain ⟨ps, ⟨g, t, cs, fuel, p, q, hg, ht, hv, hd, _, _⟩, _, _⟩ := h
  obtain rfl := Option.some.inj ((show Tryd.prog.globalNamed "subeditor/sign.operators" = some 0 by kernel_rfl).symm.trans hg)
  obtain rfl := Option.some.inj ((show (Tryd.prog.globals[0]?).map (·.type) = some 54 by kernel_rfl).symm.trans ht)
  obtain ⟨xs, m, _, ex, _, hl, hel⟩ := DataW.trod_array Tryd.underlying54 hd
  have c9 : Tryd.prog.cellsOf 9 = 1 := by kernel_rfl
  have hlen : Sg.opers.length = 34 := rfl
  have key : ∀ r, r < 34 → W.cell? ⟨0, r, none⟩ = some (.string ⟨(Sg.opers.getD r []).toArray⟩) := by
    intro r hr
    have hE := hel r hr
    rw [c9, Nat.mul_one, List.getElem?_eq_getElem (by omega)] at hE
    obtain ⟨z, e1, e2, _⟩ := DataW.trod_string Tryd.underlying9 hE
    rw [laid_list] at ex
    have e3 : (xs.map (·.1)) = Sg.opers.map fun l => .lit (.string l) := (DataW.agg.inj (Prod.mk.inj ex).1).symm
    have e4 : (xs.map (·.1))[r]? = (Sg.opers.map fun l => (DataW.lit (.string l) : DataW Unit))[r]? := by rw [e3]
    rw [List.getElem?_map, List.getElem?_map, List.getElem?_eq_getElem (by omega : r < xs.length), List.getElem?_eq_getElem (by omega : r < Sg.opers.length), e2] at e4
    have hz : z.data.toList = Sg.opers.getD r [] := by
      simp only [Option.map_some, Option.some.injEq, DataW.lit.injEq, Lit.string.injEq] at e4
      rw [e4, List.getD, List.getElem?_eq_getElem (by omega : r < Sg.opers.length)]; rfl
    have hz2 : z = ⟨(Sg.opers.getD r []).toArray⟩ := by rw [← hz, Lib.mk_data]
    rw [World.var?_cell hg hv r, ← hz2]
    have : cs.toList[r]? = some (.string z) := by
      have h0 : ((cs.toList.drop r).take 1)[0]? = some (.string z) := by rw [e1]; rfl
      simpa using h0
    simpa using this
  have hlt : 0 < W.heap.size := by
    rcases Nat.eq_zero_or_pos W.heap.size with h0 | h0
    · have := key 0 (by decide)
      simp [World.cell?, Array.getElem?_eq_none (show W.heap.size ≤ 0 by omega)] at this
    · exact h0
  refine ⟨hlt, fun j v hj => ?_⟩
  by_cases hr : j < 34
  · rw [opsL_get hr] at hj
    rw [Nat.zero_add, key j hr]; exact hj
  · have : opsL.length = 34 := rfl
    rw [List.getElem?_eq_none (by omega)] at hj
    cases hj
end Go.Proofs.YtdhmcfhpadabaaaDoor.sg
