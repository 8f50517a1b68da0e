/-
  node: strings.Clone; so that Copy, At, With ask nothing more.
-/
import Derived.Test.YtbdkemgfdghbkaaDoorNdWith
import Derived.Test.YtbdkemgfdghbkaaDoorShelf
namespace Go.Proofs.YtbdkemgfdghbkaaDoor.nd
open Go.RowKit Go.Shelf sx ed
set_option linter.unusedVariables false

set_option maxRecDepth 100000 in
theorem clone_calls (t : ByteArray) (ht : t.size ≤ 140737488351232) (W : World) : Calls Tryd.prog 39 #[.string t] W fun e w' => e = .returned (.string t) ∧ Below W.heap.size W w' := by
  have h := Tryd.stringslite_Clone t W (by omega)
  go_enter Tryd.func39, Tryd.ntmps39
  go_wp2_with (go_at_call 50; refine h.mono ?_; rintro e w' ⟨rfl, hb⟩)
  go_ret
  exact ⟨rfl, hb⟩

theorem copy_calls (x : Nd) (hwt : x.weight ≤ 1000000) (w : World) (v : Value) (hu : NdAt (Lt w.heap.size) w x v) :
    Calls Tryd.prog 21 #[v] w fun e w' => ∃ u, e = .returned u ∧ CopyOf w x u w' := copy_of clone_calls x hwt w v hu
theorem at_calls (x : Nd) (hwt : x.weight ≤ 1000000) (l : List Int) (w : World) (v p : Value) (hu : NdAt (Lt w.heap.size) w x v) (hpt : IntsAt (Lt w.heap.size) w p l) :
    Calls Tryd.prog 18 #[v, p] w (AtRes w (x.at l)) := at_of clone_calls x hwt l w v p hu hpt
theorem with_calls (x y : Nd) (hwx : x.weight ≤ 500000) (hwy : y.weight ≤ 500000) (l : List Int) (w : World) (v p u : Value) (hx : NdAt (Lt w.heap.size) w x v) (hpt : IntsAt (Lt w.heap.size) w p l) (hy : NdAt (Lt w.heap.size) w y u) :
    Calls Tryd.prog 17 #[v, p, u] w (AtRes w (x.put l y)) := with_of clone_calls x y hwx hwy l w v p u hx hpt hy
end Go.Proofs.YtbdkemgfdghbkaaDoor.nd
