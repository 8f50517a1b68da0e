/-
  subeditorlaw09.BareWrapped: for every input it returns true, and the arguments read as they did. No condition.
-/
import Derived.Test.YthadnhpkeljdoaaGreatQg01
import Derived.Test.YthadnhpkeljdoaaGreatQg02
import Derived.Test.YthadnhpkeljdoaaGreatQg03
import Derived.Test.YthadnhpkeljdoaaGreatQg04
import Derived.Test.YthadnhpkeljdoaaGreatQg05
import Derived.Test.YthadnhpkeljdoaaGreatQg06
import Derived.Test.YthadnhpkeljdoaaGreatQg07
import Derived.Test.YthadnhpkeljdoaaGreatQg08
import Derived.Test.YthadnhpkeljdoaaGreatQg09
import Derived.Test.YthadnhpkeljdoaaGreatQg10
import Derived.Test.YthadnhpkeljdoaaGreatQg11
import Derived.Test.YthadnhpkeljdoaaGreatQg12
import Derived.Test.YthadnhpkeljdoaaGreatQg13
import Derived.Test.YthadnhpkeljdoaaGreatQg14
import Derived.Test.YthadnhpkeljdoaaGreatQg15
import Derived.Test.YthadnhpkeljdoaaGreatQg16
import Derived.Test.YthadnhpkeljdoaaGreatQg17
import Derived.Test.YthadnhpkeljdoaaGreatQg18
import Derived.Test.YthadnhpkeljdoaaGreatQg19
import Derived.Test.YthadnhpkeljdoaaGreatQg20
import Derived.Test.YthadnhpkeljdoaaGreatQg21
import Derived.Test.YthadnhpkeljdoaaGreatQg22
import Derived.Test.YthadnhpkeljdoaaGreatQg23
import Derived.Test.YthadnhpkeljdoaaGreatQg24
import Derived.Test.YthadnhpkeljdoaaGreatQg25
import Derived.Test.YthadnhpkeljdoaaGreatQg26
import Derived.Test.YthadnhpkeljdoaaGreatQg27
import Derived.Test.YthadnhpkeljdoaaGreatQg28
import Derived.Test.YthadnhpkeljdoaaGreatQg29
import Derived.Test.YthadnhpkeljdoaaGreatQg30
import Derived.Test.YthadnhpkeljdoaaGreatQg31
import Derived.Test.YthadnhpkeljdoaaGreatQg32
import Derived.Test.YthadnhpkeljdoaaGreatQg33
import Derived.Test.YthadnhpkeljdoaaGreatQg34
import Derived.Test.YthadnhpkeljdoaaGreatRows
import Derived.ProofKit
import Derived.Laws.BytesArg
import Derived.LaidMore
import Derived.Stop.Joined
namespace Go.Proofs.YthadnhpkeljdoaaGreat.bareWrapped
open Go.RowKit Go.ChangeShapes Go.WideShapes Go.ChangeAt Go.ChangeMaps
set_option linter.unusedVariables false

set_option maxRecDepth 100000 in
theorem lifted (os : Os) (started : os.Started) (H : Type) (enc : TypeId × Value → H) :
    ReturnsInHanded {} Tryz.checked os 4 .any (Rows.bareWrappedSpec.pre6 enc Tryz.prog Tryz.f4 Rows.bareWrappedRow.domain false) (Rows.bareWrappedSpec.post enc Tryz.prog Tryz.f4 false true false false) := by
  refine returnsInHanded_of_change (C := Tryz.checked) law.own started (by kernel_rfl) Tryz.func4
    (ChangeSpec.witness6 (enc := enc) (C := Tryz.checked) false ⟨#[], #[.slice none 0 0, .int .u8 0, .int .u8 0], []⟩ 8 (by kernel_rfl) (by kernel_rfl) (by kernel_rfl) (by kernel_rfl)) ?_
  intro W base args ds gs before hval0 hW _ _
  have hval : ∀ (j : Nat) t v, Tryz.f4.params[j]? = some t → args[j]? = some v → Value.okWide Tryz.prog W .any base t v := hval0
  have hW' := hW
  obtain ⟨p, q, hA0, hV, rfl, _, _⟩ := hW
  have hA : DataW.TrodAll enc Tryz.prog W 0 (fun _ => true) true Tryz.f4.params.toList args.toList ds p := hA0
  rw [Tryz.params4] at hA hval
  obtain ⟨v0, vs0, d0, ds0, p0, q0, hargs, rfl, rfl, h0, r0⟩ := trodAll_cons hA
  obtain ⟨v1, vs1, d1, ds1, p1, q1, rfl, rfl, rfl, h1, r1⟩ := trodAll_cons r0
  obtain ⟨v2, vs2, d2, ds2, p2, q2, rfl, rfl, rfl, h2, r2⟩ := trodAll_cons r1
  obtain ⟨rfl, rfl, rfl⟩ := trodAll_nil r2
  obtain rfl : args = #[v0, v1, v2] := by cases args; simp_all
  obtain ⟨rfl, rfl⟩ := trodVars_none hV
  obtain ⟨bs0, hb0, hr0⟩ := pv.arg_choices (hval 0 22 v0 rfl rfl) h0
  obtain ⟨n1, rfl, rfl, rfl, wk1⟩ := open_int Tryz.underlying5 (hval 1 5 v1 rfl rfl) h1
  have hg1 := law.u8_wf wk1
  obtain ⟨n2, rfl, rfl, rfl, wk2⟩ := open_int Tryz.underlying5 (hval 2 5 v2 rfl rfl) h2
  have hg2 := law.u8_wf wk2
  have hall : ∀ (i : Nat) (x : Value) (d : pv.D), #[v0, .int .u8 n1, .int .u8 n2][i]? = some x → _ → pv.RepV (pv.GL W) W x d := fun i x d (hx : _) (hd : ([pv.dL (pv.byD bs0), .v (.int .u8 n1), .v (.int .u8 n2)] : List pv.D)[i]? = some d) => by
      match i, hx, hd with
      | 0, hx, hd => cases hx; cases hd; exact hr0
      | 1, hx, hd => cases hx; cases hd; exact (pv.rep_i W _ rfl)
      | 2, hx, hd => cases hx; cases hd; exact (pv.rep_i W _ rfl)
      | i + 3, hx, hd => cases hd
  refine (pv.law_true (pv.BareWrapped_ok bs0 hb0 n1 hg1 n2 hg2) W #[v0, .int .u8 n1, .int .u8 n2] rfl hall).mono fun e W' ⟨he, hb⟩ => ⟨_, he, ?_⟩
  exact law.law_post rfl hW' rfl (by kernel_rfl) (by kernel_rfl) hb

/-- BareWrapped, for every input. -/
theorem holds : Rows.BareWrappedSaid :=
  OpenClaim.holds_of_wide 4 Tryz.f4 rfl rfl rfl rfl rfl rfl rfl ⟨rfl, rfl, rfl, rfl, rfl⟩ rfl rfl rfl rfl rfl (by kernel_rfl) Tryz.func4 (by kernel_rfl)
    (of_decide_eq_true (by kernel_rfl)) (by unfold Func.isWrapper; first | (rw [if_pos (by decide +kernel)]; kernel_rfl) | (rw [if_neg (by decide +kernel)]; exact ⟨rfl, rfl⟩))
    (fun os started H enc _ => lifted os started H enc)
end Go.Proofs.YthadnhpkeljdoaaGreat.bareWrapped
