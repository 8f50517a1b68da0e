/-
  subeditorlaw01.UtfBack: for every input it returns true, and the arguments read as they did. No condition.
-/
import Derived.Test.YtmcjjkjolbpneaaUtfKnown
import Derived.Test.YtmcjjkjolbpneaaUtfMath
namespace Go.Proofs.Ytmcjjkjolbpneaa.utfBack
open Go.RowKit Go.ChangeShapes Go.WideShapes Go.ChangeAt Go.ChangeMaps
open utf
set_option linter.unusedVariables false

theorem place_at (t : ByteArray) (ht : t.size ≤ 240) (a : Nat) (ha : a ≤ t.size) (i : Int) (hi : i = (a : Int)) (p : Nat × Nat) (hp : Sp.pl (t.data.toList.take a) = p) (w : World) :
    Calls Try.prog 12 #[.string t, .int .i64 i] w fun e W' => e = .returned (.tuple #[.int .i64 (p.1 : Int), .int .i64 (p.2 : Int), .bool true]) ∧ Below w.heap.size w W' := by
  have h := place_calls t (by omega) i (by omega) w
  rw [hi, Sp.placeF_in _ _ (by rw [size_toList]; exact ha), hp] at h
  rw [hi]
  exact h
theorem place_off (t : ByteArray) (ht : t.size ≤ 240) (i : Int) (hi : (t.size : Int) < i) (hi2 : i ≤ 1000) (w : World) :
    Calls Try.prog 12 #[.string t, .int .i64 i] w fun e W' => e = .returned (.tuple #[.int .i64 0, .int .i64 0, .bool false]) ∧ Below w.heap.size w W' := by
  have h := place_calls t (by omega) i (by omega) w
  rw [Sp.placeF_out _ _ (.inr (by rw [size_toList]; exact hi))] at h
  exact h
theorem offset_at (t : ByteArray) (ht : t.size ≤ 240) (a : Nat) (ha : a ≤ t.size) (p : Nat × Nat) (hp : Sp.pl (t.data.toList.take a) = p) (w : World) :
    Calls Try.prog 13 #[.string t, .int .i64 (p.1 : Int), .int .i64 (p.2 : Int)] w fun e W' => e = .returned (.tuple #[.int .i64 (a : Int), .bool true]) ∧ Below w.heap.size w W' := by
  have h := offset_calls t (by omega) (p.1 : Int) (p.2 : Int) w
  have e := Sp.offF_place t.data.toList a (by rw [size_toList]; exact ha)
  rw [hp] at e
  rw [e] at h
  exact h

set_option maxRecDepth 100000 in
set_option maxHeartbeats 4000000 in
theorem walk (v : Value) (bs : List Int) (k : Int) (hk0 : 0 ≤ k) (hk1 : k ≤ 255) (w : World) (hv : law.BytesAt w v bs) :
    Calls Try.prog 4 #[v, .int .u8 k] w fun e w' => e = .returned (.bool true) ∧ Below w.heap.size w w' := by
  have ht := textF_size bs
  have htx := text_calls v bs w hv
  generalize textF bs = t at ht htx
  have HT := Lib.hid htx
  obtain ⟨a, hae⟩ : ∃ a : Nat, k % ((t.size : Int) + 1) = (a : Int) := ⟨(k % ((t.size : Int) + 1)).toNat, by have := Int.emod_nonneg k (show ((t.size : Int) + 1) ≠ 0 by omega); omega⟩
  have hal : a ≤ t.size := by have := Int.emod_lt_of_pos k (show 0 < ((t.size : Int) + 1) by omega); omega
  obtain ⟨⟨pl1, pl2⟩, hp⟩ : ∃ p, Sp.pl (t.data.toList.take a) = p := ⟨_, rfl⟩
  have hple := Sp.pl_le (t.data.toList.take a)
  rw [hp, List.length_take, size_toList] at hple
  have hl1 : pl1 ≤ 240 := by have := hple.1; simp at this; omega
  have hl2 : pl2 ≤ 240 := by have := hple.2; simp at this; omega
  have HA := Lib.hid hae; have HP := Lib.hid hp
  clear hae hp hple htx hv
  have hbeq : ((a : Int) == (a : Int)) = true := by simp
  rcases Nat.lt_or_ge a t.size with hlt | hge
  · have hs := Sp.pl_succ t.data.toList a (by rw [size_toList]; exact hlt)
    rw [HP.out] at hs
    by_cases h10 : t.data.toList[a]'(by rw [size_toList]; exact hlt) = 10
    · have hn : Sp.pl (t.data.toList.take (a + 1)) = (pl1 + 1, 0) := by rw [hs]; unfold Sp.step; rw [if_pos h10]
      have HN := Lib.hid hn
      clear hs h10 hn
      have t1 : ((pl1 : Int) + 1 == (pl1 : Int)) = false := by rw [beq_eq_false_iff_ne]; omega
      have t2 : ((pl1 : Int) + 1 == (pl1 : Int) + 1) = true := by simp
      go_enter Try.func4, Try.ntmps4
      go_wp2_with fail
      ((with_reducible refine HT.out.mono ?_); rintro e w1 ⟨rfl, hb1⟩)
      go_wp2_with fail
      rw [HA.out]
      ((with_reducible refine (place_at t ht a hal _ rfl (pl1, pl2) HP.out _).mono ?_); rintro e w2 ⟨rfl, hb2⟩)
      go_wp2_with fail
      ((with_reducible refine (offset_at t ht a hal (pl1, pl2) HP.out _).mono ?_); rintro e w3 ⟨rfl, hb3⟩)
      go_wp2_with fail
      ((with_reducible refine (place_at t ht (a + 1) (by omega) _ (by simp) (pl1 + 1, 0) HN.out _).mono ?_); rintro e w4 ⟨rfl, hb4⟩)
      go_wp2_with fail
      ((with_reducible refine (place_off t ht _ (by omega) (by omega) _).mono ?_); rintro e w5 ⟨rfl, hb5⟩)
      go_wp2_with fail
      ((with_reducible refine (known_calls _).mono ?_); rintro e w6 ⟨rfl, hb6⟩)
      go_wp2_with fail
      go_ret
      exact ⟨rfl, Below.next (Below.next (Below.next (Below.next (Below.next hb1 hb2 (Nat.le_refl _)) hb3 (Nat.le_refl _)) hb4 (Nat.le_refl _)) hb5 (Nat.le_refl _)) hb6 (Nat.le_refl _)⟩

    · have hn : Sp.pl (t.data.toList.take (a + 1)) = (pl1, pl2 + 1) := by rw [hs]; unfold Sp.step; rw [if_neg h10]
      have HN := Lib.hid hn
      clear hs h10 hn
      have t1 : ((pl1 : Int) == (pl1 : Int)) = true := by simp
      have t2 : ((pl2 : Int) + 1 == (pl2 : Int) + 1) = true := by simp
      go_enter Try.func4, Try.ntmps4
      go_wp2_with fail
      ((with_reducible refine HT.out.mono ?_); rintro e w1 ⟨rfl, hb1⟩)
      go_wp2_with fail
      rw [HA.out]
      ((with_reducible refine (place_at t ht a hal _ rfl (pl1, pl2) HP.out _).mono ?_); rintro e w2 ⟨rfl, hb2⟩)
      go_wp2_with fail
      ((with_reducible refine (offset_at t ht a hal (pl1, pl2) HP.out _).mono ?_); rintro e w3 ⟨rfl, hb3⟩)
      go_wp2_with fail
      ((with_reducible refine (place_at t ht (a + 1) (by omega) _ (by simp) (pl1, pl2 + 1) HN.out _).mono ?_); rintro e w4 ⟨rfl, hb4⟩)
      go_wp2_with fail
      ((with_reducible refine (place_off t ht _ (by omega) (by omega) _).mono ?_); rintro e w5 ⟨rfl, hb5⟩)
      go_wp2_with fail
      ((with_reducible refine (known_calls _).mono ?_); rintro e w6 ⟨rfl, hb6⟩)
      go_wp2_with fail
      go_ret
      exact ⟨rfl, Below.next (Below.next (Below.next (Below.next (Below.next hb1 hb2 (Nat.le_refl _)) hb3 (Nat.le_refl _)) hb4 (Nat.le_refl _)) hb5 (Nat.le_refl _)) hb6 (Nat.le_refl _)⟩

  · have hge' : a = t.size := by omega
    have HG := Lib.hid hge'
    clear hge'
    go_enter Try.func4, Try.ntmps4
    go_wp2_with fail
    ((with_reducible refine HT.out.mono ?_); rintro e w1 ⟨rfl, hb1⟩)
    go_wp2_with fail
    rw [HA.out]
    ((with_reducible refine (place_at t ht a hal _ rfl (pl1, pl2) HP.out _).mono ?_); rintro e w2 ⟨rfl, hb2⟩)
    go_wp2_with fail
    ((with_reducible refine (offset_at t ht a hal (pl1, pl2) HP.out _).mono ?_); rintro e w3 ⟨rfl, hb3⟩)
    go_wp2_with fail
    ((with_reducible refine (place_off t ht _ (by omega) (by omega) _).mono ?_); rintro e w4 ⟨rfl, hb4⟩)
    go_wp2_with fail
    ((with_reducible refine (place_off t ht _ (by omega) (by omega) _).mono ?_); rintro e w5 ⟨rfl, hb5⟩)
    go_wp2_with fail
    ((with_reducible refine (known_calls _).mono ?_); rintro e w6 ⟨rfl, hb6⟩)
    go_wp2_with fail
    go_ret
    exact ⟨rfl, Below.next (Below.next (Below.next (Below.next (Below.next hb1 hb2 (Nat.le_refl _)) hb3 (Nat.le_refl _)) hb4 (Nat.le_refl _)) hb5 (Nat.le_refl _)) hb6 (Nat.le_refl _)⟩

set_option maxRecDepth 100000 in
theorem lifted (os : Os) (started : os.Started) (H : Type) (enc : TypeId × Value → H) :
    ReturnsInHanded {} Try.checked os 4 .any (Rows.utfBackSpec.pre6 enc Try.prog Try.f4 Rows.utfBackRow.domain false) (Rows.utfBackSpec.post enc Try.prog Try.f4 false true false false) := by
  refine returnsInHanded_of_change (C := Try.checked) law.own started (by kernel_rfl) Try.func4
    (ChangeSpec.witness6 (enc := enc) (C := Try.checked) false ⟨#[], #[.slice none 0 0, .int .u8 0], []⟩ 8 (by kernel_rfl) (by kernel_rfl) (by kernel_rfl) (by kernel_rfl)) ?_
  intro W base args ds gs before hval0 hW _ _
  have hval : ∀ (j : Nat) t v, Try.f4.params[j]? = some t → args[j]? = some v → Value.okWide Try.prog W .any base t v := hval0
  have hW' := hW
  obtain ⟨p, q, hA0, hV, rfl, _, _⟩ := hW
  have hA : DataW.TrodAll enc Try.prog W 0 (fun _ => true) true Try.f4.params.toList args.toList ds p := hA0
  rw [Try.params4] at hA hval
  obtain ⟨v0, v1, d0, d1, p0, p1, rfl, rfl, rfl, h0, h1⟩ := trodAll_two hA
  obtain ⟨rfl, rfl⟩ := trodVars_none hV
  obtain ⟨bs, hbs⟩ := law.open_bytes (hval 0 22 v0 rfl rfl) h0
  obtain ⟨k, rfl, rfl, rfl, hk⟩ := open_int Try.underlying5 (hval 1 5 v1 rfl rfl) h1
  have hk' := law.u8_wf hk
  refine (walk v0 bs k hk'.1 hk'.2 W hbs).mono fun e W' ⟨he, hb⟩ => ⟨_, he, ?_⟩
  exact law.law_post rfl hW' rfl (by kernel_rfl) (by kernel_rfl) hb

/-- UtfBack, for every input. -/
theorem holds : Rows.UtfBackSaid :=
  OpenClaim.holds_of_wide 4 Try.f4 rfl rfl rfl rfl rfl rfl rfl ⟨rfl, rfl, rfl, rfl, rfl⟩ rfl rfl rfl rfl rfl (by kernel_rfl) Try.func4 (by kernel_rfl)
    (of_decide_eq_true (by kernel_rfl)) (by unfold Func.isWrapper; first | (rw [if_pos (by decide +kernel)]; kernel_rfl) | (rw [if_neg (by decide +kernel)]; exact ⟨rfl, rfl⟩))
    (fun os started H enc _ => lifted os started H enc)
end Go.Proofs.Ytmcjjkjolbpneaa.utfBack
