/-
  subeditorlaw09.BareOrder: for every input it returns true, and the arguments read as they did. No condition.
-/
import Derived.Test.YthadnhpkeljdoaaQh01
import Derived.Test.YthadnhpkeljdoaaQh02
import Derived.Test.YthadnhpkeljdoaaQh03
import Derived.Test.YthadnhpkeljdoaaQh04
import Derived.Test.YthadnhpkeljdoaaQh05
import Derived.Test.YthadnhpkeljdoaaQh06
import Derived.Test.YthadnhpkeljdoaaQh07
import Derived.Test.YthadnhpkeljdoaaQh08
import Derived.Test.YthadnhpkeljdoaaQh09
import Derived.Test.YthadnhpkeljdoaaQh10
import Derived.Test.YthadnhpkeljdoaaQh11
import Derived.Test.YthadnhpkeljdoaaQh12
import Derived.Test.YthadnhpkeljdoaaQh13
import Derived.Test.YthadnhpkeljdoaaQh14
import Derived.Test.YthadnhpkeljdoaaQh15
import Derived.Test.YthadnhpkeljdoaaQh16
import Derived.Test.YthadnhpkeljdoaaQh17
import Derived.Test.YthadnhpkeljdoaaQh18
import Derived.Test.YthadnhpkeljdoaaQh19
import Derived.Test.YthadnhpkeljdoaaQh20
import Derived.Test.YthadnhpkeljdoaaQh21
import Derived.Test.YthadnhpkeljdoaaQh22
import Derived.Test.YthadnhpkeljdoaaQh23
import Derived.Test.YthadnhpkeljdoaaQh24
import Derived.Test.YthadnhpkeljdoaaQh25
import Derived.Test.YthadnhpkeljdoaaQh26
import Derived.Test.YthadnhpkeljdoaaQh27
import Derived.Test.YthadnhpkeljdoaaQh28
import Derived.Test.YthadnhpkeljdoaaQh29
import Derived.Test.YthadnhpkeljdoaaQh30
import Derived.Test.YthadnhpkeljdoaaQh31
import Derived.Test.YthadnhpkeljdoaaRows
import Derived.ProofKit
import Derived.Laws.BytesArg
import Derived.LaidMore
import Derived.Stop.Joined
namespace Go.Proofs.Ythadnhpkeljdoaa.bareOrder
open Go.RowKit Go.ChangeShapes Go.WideShapes Go.ChangeAt Go.ChangeMaps
set_option linter.unusedVariables false

set_option maxRecDepth 100000 in
theorem lifted (os : Os) (started : os.Started) (H : Type) (enc : TypeId × Value → H) :
    ReturnsInHanded {} Try.checked os 3 .any (Rows.bareOrderSpec.pre6 enc Try.prog Try.f3 Rows.bareOrderRow.domain false) (Rows.bareOrderSpec.post enc Try.prog Try.f3 false true false false) := by
  refine returnsInHanded_of_change (C := Try.checked) law.own started (by kernel_rfl) Try.func3
    (ChangeSpec.witness6 (enc := enc) (C := Try.checked) false ⟨#[], #[.slice none 0 0], []⟩ 8 (by kernel_rfl) (by kernel_rfl) (by kernel_rfl) (by kernel_rfl)) ?_
  intro W base args ds gs before hval0 hW _ _
  have hval : ∀ (j : Nat) t v, Try.f3.params[j]? = some t → args[j]? = some v → Value.okWide Try.prog W .any base t v := hval0
  have hW' := hW
  obtain ⟨p, q, hA0, hV, rfl, _, _⟩ := hW
  have hA : DataW.TrodAll enc Try.prog W 0 (fun _ => true) true Try.f3.params.toList args.toList ds p := hA0
  rw [Try.params3] at hA hval
  obtain ⟨v0, d0, rfl, rfl, h0⟩ := trodAll_one hA
  obtain ⟨rfl, rfl⟩ := trodVars_none hV
  obtain ⟨bs0, hb0, hr0⟩ := pv.arg_choices (hval 0 22 v0 rfl rfl) h0
  have hall : ∀ (i : Nat) (x : Value) (d : pv.D), #[v0][i]? = some x → _ → pv.RepV (pv.GL W) W x d := fun i x d (hx : _) (hd : ([pv.dL (pv.byD bs0)] : List pv.D)[i]? = some d) => by
      match i, hx, hd with
      | 0, hx, hd => cases hx; cases hd; exact hr0
      | i + 1, hx, hd => cases hd
  refine (pv.law_true (pv.BareOrder_ok bs0 hb0) W #[v0] rfl hall).mono fun e W' ⟨he, hb⟩ => ⟨_, he, ?_⟩
  exact law.law_post rfl hW' rfl (by kernel_rfl) (by kernel_rfl) hb

/-- BareOrder, for every input. -/
theorem holds : Rows.BareOrderSaid :=
  OpenClaim.holds_of_wide 3 Try.f3 rfl rfl rfl rfl rfl rfl rfl ⟨rfl, rfl, rfl, rfl, rfl⟩ rfl rfl rfl rfl rfl (by kernel_rfl) Try.func3 (by kernel_rfl)
    (of_decide_eq_true (by kernel_rfl)) (by unfold Func.isWrapper; first | (rw [if_pos (by decide +kernel)]; kernel_rfl) | (rw [if_neg (by decide +kernel)]; exact ⟨rfl, rfl⟩))
    (fun os started H enc _ => lifted os started H enc)
end Go.Proofs.Ythadnhpkeljdoaa.bareOrder
