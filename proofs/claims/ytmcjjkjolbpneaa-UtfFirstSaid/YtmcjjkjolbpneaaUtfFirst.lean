/-
  subeditorlaw01.UtfFirst: for every input it returns true, and the arguments read as they did. No condition.
-/
import Derived.Test.YtmcjjkjolbpneaaUtfKnown
import Derived.Test.YtmcjjkjolbpneaaUtfRunes
namespace Go.Proofs.Ytmcjjkjolbpneaa.utfFirst
open Go.RowKit Go.ChangeShapes Go.WideShapes Go.ChangeAt Go.ChangeMaps
open utf
set_option linter.unusedVariables false

theorem extract_take (s : ByteArray) (k : Nat) : (s.extract 0 k).data.toList = s.data.toList.take k := by
  rw [ByteArray.data_extract, Array.toList_extract, List.extract_eq_take_drop]
  simp

theorem check_at (t : ByteArray) (ht : t.size ≤ 240) (c : Int) (hc : checkF t = c) (w : World) :
    Calls Try.prog 15 #[.string t] w fun e W' => e = .returned (.int .i64 c) ∧ Below w.heap.size w W' := by
  have h := check_calls t (by omega) w
  rw [hc] at h
  exact h

set_option maxRecDepth 100000 in
set_option maxHeartbeats 4000000 in
theorem walk (v : Value) (bs : List Int) (w : World) (hv : law.BytesAt w v bs) :
    Calls Try.prog 6 #[v] w fun e w' => e = .returned (.bool true) ∧ Below w.heap.size w w' := by
  have ht := textF_size bs
  have htx := text_calls v bs w hv
  generalize textF bs = t at ht htx
  have HT := Lib.hid htx
  clear htx hv
  rcases chk_first t.data.toList.length t.data.toList 0 (Nat.le_refl _) with hc | ⟨a, ha, hc, hc1, hc2⟩
  · rw [← checkF_L] at hc
    have HC := Lib.hid hc
    have hw := wideFrom_le t t.size 0
    have hle : decide ((wideF t : Int) ≤ (t.size : Int)) = true := decide_eq_true (by unfold wideF; omega)
    have hle2 : decide (wideF t ≤ t.size) = true := decide_eq_true (by unfold wideF; omega)
    clear hc hw
    go_enter Try.func6, Try.ntmps6
    go_wp2_with fail
    ((with_reducible refine HT.out.mono ?_); rintro e w1 ⟨rfl, hb1⟩)
    go_wp2_with fail
    ((with_reducible refine (check_at t ht _ HC.out _).mono ?_); rintro e w2 ⟨rfl, hb2⟩)
    go_wp2_with fail
    ((with_reducible refine (known_calls _).mono ?_); rintro e w3 ⟨rfl, hb3⟩)
    go_wp2_with fail
    ((with_reducible refine (wide_calls t (by omega) _).mono ?_); rintro e w4 ⟨rfl, hb4⟩)
    go_wp2_with fail
    go_ret
    exact ⟨rfl, Below.next (Below.next (Below.next hb1 hb2 (Nat.le_refl _)) hb3 (Nat.le_refl _)) hb4 (Nat.le_refl _)⟩
  · rw [← checkF_L, Nat.zero_add] at hc
    have HC := Lib.hid hc
    rw [size_toList] at ha
    have e1 : checkF (t.extract 0 a) = -1 := by
      rw [checkF_L, extract_take]
      exact hc1 _ _ (by rw [List.length_take, size_toList]; omega)
    have e2 : checkF (t.extract a t.size) = 0 := by
      rw [checkF_L, extract_drop]
      have hl : (t.data.toList.drop a).length = (t.size - a - 1) + 1 := by rw [List.length_drop, size_toList]; omega
      rw [hl]
      exact hc2 _ 0
    have s1 : (t.extract 0 a).size ≤ 240 := by rw [ByteArray.size_extract]; omega
    have s2 : (t.extract a t.size).size ≤ 240 := by rw [ByteArray.size_extract]; omega
    have E1 := Lib.hid e1; have E2 := Lib.hid e2
    have hlt : decide ((a : Int) < (t.size : Int)) = true := by simp; omega
    have hlt2 : decide (a < t.size) = true := by simp; omega
    have hle : (a : Int) ≤ (t.size : Int) := by omega
    clear hc hc1 hc2 e1 e2
    go_enter Try.func6, Try.ntmps6
    go_wp2_with fail
    ((with_reducible refine HT.out.mono ?_); rintro e w1 ⟨rfl, hb1⟩)
    go_wp2_with fail
    ((with_reducible refine (check_at t ht _ HC.out _).mono ?_); rintro e w2 ⟨rfl, hb2⟩)
    go_wp2_with fail
    ((with_reducible refine (known_calls _).mono ?_); rintro e w3 ⟨rfl, hb3⟩)
    go_wp2_with fail
    ((with_reducible refine (check_at _ s1 _ E1.out _).mono ?_); rintro e w4 ⟨rfl, hb4⟩)
    go_wp2_with fail
    ((with_reducible refine (check_at _ s2 _ E2.out _).mono ?_); rintro e w5 ⟨rfl, hb5⟩)
    go_wp2_with fail
    go_ret
    exact ⟨rfl, Below.next (Below.next (Below.next (Below.next hb1 hb2 (Nat.le_refl _)) hb3 (Nat.le_refl _)) hb4 (Nat.le_refl _)) hb5 (Nat.le_refl _)⟩

set_option maxRecDepth 100000 in
theorem lifted (os : Os) (started : os.Started) (H : Type) (enc : TypeId × Value → H) :
    ReturnsInHanded {} Try.checked os 6 .any (Rows.utfFirstSpec.pre6 enc Try.prog Try.f6 Rows.utfFirstRow.domain false) (Rows.utfFirstSpec.post enc Try.prog Try.f6 false true false false) := by
  refine returnsInHanded_of_change (C := Try.checked) law.own started (by kernel_rfl) Try.func6
    (ChangeSpec.witness6 (enc := enc) (C := Try.checked) false ⟨#[], #[.slice none 0 0], []⟩ 8 (by kernel_rfl) (by kernel_rfl) (by kernel_rfl) (by kernel_rfl)) ?_
  intro W base args ds gs before hval0 hW _ _
  have hval : ∀ (j : Nat) t v, Try.f6.params[j]? = some t → args[j]? = some v → Value.okWide Try.prog W .any base t v := hval0
  have hW' := hW
  obtain ⟨p, q, hA0, hV, rfl, _, _⟩ := hW
  have hA : DataW.TrodAll enc Try.prog W 0 (fun _ => true) true Try.f6.params.toList args.toList ds p := hA0
  rw [Try.params6] at hA hval
  obtain ⟨v0, d0, rfl, rfl, h0⟩ := trodAll_one hA
  obtain ⟨rfl, rfl⟩ := trodVars_none hV
  obtain ⟨bs, hbs⟩ := law.open_bytes (hval 0 22 v0 rfl rfl) h0
  refine (walk v0 bs W hbs).mono fun e W' ⟨he, hb⟩ => ⟨_, he, ?_⟩
  exact law.law_post rfl hW' rfl (by kernel_rfl) (by kernel_rfl) hb

/-- UtfFirst, for every input. -/
theorem holds : Rows.UtfFirstSaid :=
  OpenClaim.holds_of_wide 6 Try.f6 rfl rfl rfl rfl rfl rfl rfl ⟨rfl, rfl, rfl, rfl, rfl⟩ rfl rfl rfl rfl rfl (by kernel_rfl) Try.func6 (by kernel_rfl)
    (of_decide_eq_true (by kernel_rfl)) (by unfold Func.isWrapper; first | (rw [if_pos (by decide +kernel)]; kernel_rfl) | (rw [if_neg (by decide +kernel)]; exact ⟨rfl, rfl⟩))
    (fun os started H enc _ => lifted os started H enc)
end Go.Proofs.Ytmcjjkjolbpneaa.utfFirst
