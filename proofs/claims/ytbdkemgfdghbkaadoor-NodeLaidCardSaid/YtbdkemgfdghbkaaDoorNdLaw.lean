/-
  node: from the rows' condition to the library's tables.
-/
import Derived.Test.YtbdkemgfdghbkaaDoorLaw
import Derived.Test.YtbdkemgfdghbkaaDoorNdKnown
import Derived.Test.YtbdkemgfdghbkaaDoorRows
import Derived.Lib.LaidPrint
import Derived.Lib.LaidU8
import Derived.ProofKit
import Derived.LaidMore
import Derived.Lay
import Derived.Stop.Joined
namespace Go.Proofs.YtbdkemgfdghbkaaDoor.nd
open Go.RowKit Go.ChangeShapes Go.WideShapes Go.ChangeAt Go.Shelf Go.Lib sx ed law
set_option linter.unusedVariables false

def laid : List (String × DataW Unit) := [("math/bits.deBruijn32tab", Rows.laid_math_bits_deBruijn32tab), ("math/bits.deBruijn64tab", Rows.laid_math_bits_deBruijn64tab), ("internal/strconv.uint64pow10", Rows.laid_internal_strconv_uint64pow10), ("unicode/utf8.acceptRanges", Rows.laid_unicode_utf8_acceptRanges), ("strconv.isGraphic", Rows.laid_strconv_isGraphic), ("strconv.isNotPrint16", Rows.laid_strconv_isNotPrint16), ("strconv.isNotPrint32", Rows.laid_strconv_isNotPrint32), ("strconv.isPrint16", Rows.laid_strconv_isPrint16), ("strconv.isPrint32", Rows.laid_strconv_isPrint32), ("unicode/utf8.first", Rows.laid_unicode_utf8_first)]

set_option maxRecDepth 100000 in
theorem laid_met (os : Os) (args : Array Value) : laidMetH Tryd.prog laid ((World.laidAll Tryd.prog os laid).forCall (fun _ _ => 0) ⟨#[], args, []⟩).memory := by
  rw [MakeChecks.laidMetH_plain _ _ _ (by kernel_rfl)]; exact laidMet_laidAll _ (by kernel_rfl) (by kernel_rfl)

theorem printExtra : PrintExtra Tryd.prog Tryd.lays339_ren := ⟨by kernel_rfl, by kernel_rfl, by kernel_rfl, by kernel_rfl, by kernel_rfl, by kernel_rfl, by kernel_rfl, by kernel_rfl, by kernel_rfl, by kernel_rfl⟩
theorem u8Extra : U8Extra Tryd.prog Tryd.lays260_ren := ⟨by kernel_rfl, by kernel_rfl, by kernel_rfl, by kernel_rfl, by kernel_rfl, by kernel_rfl, by kernel_rfl⟩
theorem pow_of_reads {w : World} (h : VarReads Tryd.prog w "internal/strconv.uint64pow10" (tabData .u64 pow10Tab)) : TabIs Tryd.prog w "internal/strconv.uint64pow10" .u64 pow10Tab := by
  obtain ⟨g, t, cs, fuel, p, hg, hty, hvar, hd⟩ := h
  obtain rfl := Option.some.inj ((show Tryd.prog.globalNamed "internal/strconv.uint64pow10" = some 1 by kernel_rfl).symm.trans hg)
  obtain rfl := Option.some.inj ((show (Tryd.prog.globals[1]?).map (·.type) = some 104 by kernel_rfl).symm.trans hty)
  have hcs := cells_of_tab Tryd.underlying104 Tryd.underlying88 (by kernel_rfl) (by kernel_rfl) hd
  unfold TabIs
  rw [hvar, ← hcs]
theorem tabs_of_laid {W : World} (h : laidMetH Tryd.prog laid W) : Tabs goPrintTabs W := by
  rw [MakeChecks.laidMetH_plain _ _ _ (by kernel_rfl)] at h
  have r : ∀ {n : String} {d d' : DataW Unit}, (n, d) ∈ laid → d = d' → VarReads Tryd.prog W n d' := fun hm e => e ▸ laidMet.reads h hm
  refine ⟨pow_of_reads (r (d := Rows.laid_internal_strconv_uint64pow10) (by simp [laid]) (by kernel_rfl)), ?_, ?_⟩
  · exact printTabs_of_reads Tryd.lays339 printExtra (r (d := Rows.laid_strconv_isPrint16) (by simp [laid]) (by kernel_rfl)) (r (d := Rows.laid_strconv_isNotPrint16) (by simp [laid]) (by kernel_rfl)) (r (d := Rows.laid_strconv_isPrint32) (by simp [laid]) (by kernel_rfl)) (r (d := Rows.laid_strconv_isNotPrint32) (by simp [laid]) (by kernel_rfl))
  · exact utf8Tabs_of_reads Tryd.lays260 u8Extra (r (d := Rows.laid_unicode_utf8_first) (by simp [laid]) (by kernel_rfl)) (r (d := Rows.laid_unicode_utf8_acceptRanges) (by simp [laid]) (by kernel_rfl))
end Go.Proofs.YtbdkemgfdghbkaaDoor.nd
