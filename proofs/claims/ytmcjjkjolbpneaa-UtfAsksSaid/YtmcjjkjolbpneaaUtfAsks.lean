/-
  subeditorlaw01.UtfAsks: for every input it returns true, and the arguments read as they did. No condition.
-/
import Derived.Test.YtmcjjkjolbpneaaUtfRef3
import Derived.Test.YtmcjjkjolbpneaaUtfRef4
import Derived.WalkSmall
namespace Go.Proofs.Ytmcjjkjolbpneaa.utfAsks
open Go.RowKit Go.ChangeShapes Go.WideShapes Go.ChangeAt Go.ChangeMaps
open utf
set_option linter.unusedVariables false

theorem place_at (s : ByteArray) (hs : s.size ≤ 1000) (a : Int) (ha : a ≤ 9223372036854775807) (p : Int × Int × Bool) (hp : Sp.placeF s.data.toList a = p) (w : World) :
    Calls Try.prog 12 #[.string s, .int .i64 a] w fun e W' => e = .returned (.tuple #[.int .i64 p.1, .int .i64 p.2.1, .bool p.2.2]) ∧ Below w.heap.size w W' := by
  have h := place_calls s (by omega) a ha w
  rw [hp] at h
  exact h
theorem rplace_at (s : ByteArray) (hs : s.size ≤ 1000) (a : Int) (p : Int × Int × Bool) (hp : Sp.placeF s.data.toList a = p) (w : World) :
    Calls Try.prog 17 #[.string s, .int .i64 a] w fun e W' => e = .returned (.tuple #[.int .i64 p.1, .int .i64 p.2.1, .bool p.2.2]) ∧ w = W' := by
  have h := refPlace_calls s hs a w
  rw [hp] at h
  exact h
theorem off_at (s : ByteArray) (hs : s.size ≤ 1000) (a b : Int) (p : Int × Bool) (hp : Sp.offF s.data.toList a b = p) (w : World) :
    Calls Try.prog 13 #[.string s, .int .i64 a, .int .i64 b] w fun e W' => e = .returned (.tuple #[.int .i64 p.1, .bool p.2]) ∧ Below w.heap.size w W' := by
  have h := offset_calls s (by omega) a b w
  rw [hp] at h
  exact h
theorem roff_at (s : ByteArray) (hs : s.size ≤ 1000) (a b : Int) (p : Int × Bool) (hp : Sp.offF s.data.toList a b = p) (w : World) :
    Calls Try.prog 18 #[.string s, .int .i64 a, .int .i64 b] w fun e W' => e = .returned (.tuple #[.int .i64 p.1, .bool p.2]) ∧ w = W' := by
  have h := refOffset_calls s hs a b w
  rw [hp] at h
  exact h
theorem check_at (s : ByteArray) (hs : s.size ≤ 1000) (c : Int) (hc : checkF s = c) (w : World) :
    Calls Try.prog 15 #[.string s] w fun e W' => e = .returned (.int .i64 c) ∧ Below w.heap.size w W' := by
  have h := check_calls s (by omega) w
  rw [hc] at h
  exact h
theorem rcheck_at (s : ByteArray) (hs : s.size ≤ 1000) (c : Int) (hc : checkF s = c) (w : World) :
    Calls Try.prog 19 #[.string s] w fun e W' => e = .returned (.int .i64 c) ∧ Below w.heap.size w W' := by
  have h := refCheck_calls s hs w
  rw [hc] at h
  exact h
theorem wide_at (s : ByteArray) (hs : s.size ≤ 1000) (c : Nat) (hc : wideF s = c) (w : World) :
    Calls Try.prog 16 #[.string s] w fun e W' => e = .returned (.int .i64 (c : Int)) ∧ Below w.heap.size w W' := by
  have h := wide_calls s (by omega) w
  rw [hc] at h
  exact h
theorem rwide_at (s : ByteArray) (hs : s.size ≤ 1000) (c : Nat) (hc : wideF s = c) (w : World) :
    Calls Try.prog 20 #[.string s] w fun e W' => e = .returned (.int .i64 (c : Int)) ∧ Below w.heap.size w W' := by
  have h := refWide_calls s hs w
  rw [hc] at h
  exact h

set_option maxRecDepth 100000 in
set_option maxHeartbeats 8000000 in
theorem asks_calls (s : ByteArray) (hs : s.size ≤ 1000) (a l c : Int) (ha : a ≤ 9223372036854775807) (w : World) :
    Calls Try.prog 11 #[.string s, .int .i64 a, .int .i64 l, .int .i64 c] w fun e W' => e = .returned (.bool true) ∧ Below w.heap.size w W' := by
  obtain ⟨⟨p1, p2, p3⟩, hp⟩ : ∃ p, Sp.placeF s.data.toList a = p := ⟨_, rfl⟩
  obtain ⟨⟨o1, o2⟩, ho⟩ : ∃ p, Sp.offF s.data.toList l c = p := ⟨_, rfl⟩
  obtain ⟨k, hk⟩ : ∃ k, checkF s = k := ⟨_, rfl⟩
  obtain ⟨n, hn⟩ : ∃ k, wideF s = k := ⟨_, rfl⟩
  have hln := lines_list s (by omega)
  have hrl := refLines_list s hs
  obtain ⟨m, hm⟩ : ∃ m, (Sp.spansOf s.data.toList).length = m := ⟨_, rfl⟩
  have hml : m ≤ 1001 := by have := Sp.spans_len s.data.toList 0 0 0; rw [size_toList] at this; unfold Sp.spansOf at hm; omega
  rw [hm] at hln hrl
  have e1 : (p1 == p1) = true := by simp
  have e2 : (p2 == p2) = true := by simp
  have e3 : (p3 == p3) = true := by simp
  have e4 : (o1 == o1) = true := by simp
  have e5 : (o2 == o2) = true := by simp
  have e6 : (k == k) = true := by simp
  have e7 : ((n : Int) == (n : Int)) = true := by simp
  have HP := Lib.hid hp; have HO := Lib.hid ho; have HK := Lib.hid hk; have HN := Lib.hid hn; have HL := Lib.hid hln; have HR := Lib.hid hrl; have HM := Lib.hid hm
  clear hp ho hk hn hln hrl hm
  go_enter Try.func11, Try.ntmps11
  go_wp2_with fail
  ((with_reducible refine (place_at s hs _ ha _ HP.out _).mono ?_); rintro e w1 ⟨rfl, hb1⟩)
  go_wp2_with fail
  ((with_reducible refine (rplace_at s hs _ _ HP.out _).mono ?_); rintro e w1' ⟨rfl, rfl⟩)
  go_wp2_with fail
  ((with_reducible refine (off_at s hs _ _ _ HO.out _).mono ?_); rintro e w2 ⟨rfl, hb2⟩)
  go_wp2_with fail
  ((with_reducible refine (roff_at s hs _ _ _ HO.out _).mono ?_); rintro e w2' ⟨rfl, rfl⟩)
  go_wp2_with fail
  ((with_reducible refine (check_at s hs _ HK.out _).mono ?_); rintro e w3 ⟨rfl, hb3⟩)
  go_wp2_with fail
  ((with_reducible refine (rcheck_at s hs _ HK.out _).mono ?_); rintro e w4 ⟨rfl, hb4⟩)
  go_wp2_with fail
  ((with_reducible refine (wide_at s hs _ HN.out _).mono ?_); rintro e w5 ⟨rfl, hb5⟩)
  go_wp2_with fail
  ((with_reducible refine (rwide_at s hs _ HN.out _).mono ?_); rintro e w6 ⟨rfl, hb6⟩)
  go_wp2_with fail
  ((with_reducible refine (HL.out _).mono ?_); rintro e w7 ⟨g, cap, rfl, hg0, hg1, hcells, hb7⟩)
  have HCE := Lib.hid hcells
  clear hcells
  go_wp2_with fail
  ((with_reducible refine (HR.out _).mono ?_); rintro e w8 ⟨g', cap', rfl, hg0', hg1', hcells', hb8⟩)
  have HCE' := Lib.hid hcells'
  clear hcells'
  have q1 : ∀ j, j < m → w8.cell? ⟨g, j, none⟩ = some (.string (s.extract ((Sp.spansOf s.data.toList).getD j (0, 0, 0)).2.1 ((Sp.spansOf s.data.toList).getD j (0, 0, 0)).2.2)) := fun j hj => by
    have hx := List.getElem?_eq_getElem (l := Sp.spansOf s.data.toList) (i := j) (by rw [HM.out]; exact hj)
    rw [hb8.cell (p := ⟨g, j, none⟩) hg1, HCE.out j _ hx]
    simp [lineV, List.getD, hx]
  have q2 : ∀ j, j < m → w8.cell? ⟨g', j, none⟩ = some (.string (s.extract ((Sp.spansOf s.data.toList).getD j (0, 0, 0)).2.1 ((Sp.spansOf s.data.toList).getD j (0, 0, 0)).2.2)) := fun j hj => by
    have hx := List.getElem?_eq_getElem (l := Sp.spansOf s.data.toList) (i := j) (by rw [HM.out]; exact hj)
    rw [HCE'.out j _ hx]
    simp [lineV, List.getD, hx]
  have Q1 := Lib.hid q1; have Q2 := Lib.hid q2
  clear q1 q2
  go_wp2_with fail
  ((with_reducible refine (refSame_calls g g' m cap cap' (by omega) _ _ Q1.out Q2.out).mono ?_); rintro e w9 ⟨rfl, nq, rfl⟩)
  go_wp2_with fail
  go_ret
  exact ⟨rfl, below_drewN (Below.next (Below.next (Below.next (Below.next (Below.next (Below.next (Below.next hb1 hb2 (Nat.le_refl _)) hb3 (Nat.le_refl _)) hb4 (Nat.le_refl _)) hb5 (Nat.le_refl _)) hb6 (Nat.le_refl _)) hb7 (Nat.le_refl _)) hb8 (Nat.le_refl _)) nq⟩

set_option maxRecDepth 100000 in
set_option maxHeartbeats 8000000 in
theorem walk_long (s : ByteArray) (hs : s.size ≤ maxLen) (hl : 300 < s.size) (a l c n : Int) (v : Value) (w : World) :
    Calls Try.prog 3 #[.string s, .int .i64 a, .int .i64 l, .int .i64 c, v, .int .u8 n] w fun e w' => e = .returned (.bool true) ∧ Below w.heap.size w w' := by
  unfold maxLen at hs
  have hd : decide ((300 : Int) < (s.size : Int)) = true := decide_eq_true (by omega)
  go_enter Try.func3, Try.ntmps3
  go_wp2_with fail
  ((with_reducible refine (known_calls _).mono ?_); rintro e w1 ⟨rfl, hb1⟩)
  go_wp2_with fail
  go_ret
  exact ⟨rfl, hb1⟩

set_option maxRecDepth 100000 in
set_option maxHeartbeats 8000000 in
theorem walk_short (s : ByteArray) (hl : s.size ≤ 300) (a l c n : Int) (ha : a ≤ 9223372036854775807) (hl2 : l ≤ 9223372036854775807) (hn0 : 0 ≤ n) (hn1 : n ≤ 255) (v : Value) (bs : List Int) (w : World) (hv : law.BytesAt w v bs) :
    Calls Try.prog 3 #[.string s, .int .i64 a, .int .i64 l, .int .i64 c, v, .int .u8 n] w fun e w' => e = .returned (.bool true) ∧ Below w.heap.size w w' := by
  have hd : decide ((300 : Int) < (s.size : Int)) = false := decide_eq_false (by omega)
  have ht := textF_size bs
  have htx : ∀ w1, Below w.heap.size w w1 → Calls Try.prog 10 #[v] w1 fun e w' => e = .returned (.string (textF bs)) ∧ Below w1.heap.size w1 w' := fun w1 hb => text_calls v bs w1 (hv.below hb)
  generalize textF bs = t at ht htx
  have HT := Lib.hid htx
  clear htx hv
  have hsum : t.size + s.size ≤ maxLen := by unfold maxLen; omega
  have hts : (t ++ s).size ≤ 1000 := by rw [ByteArray.size_append]; omega
  go_enter Try.func3, Try.ntmps3
  go_wp2_with fail
  ((with_reducible refine (known_calls _).mono ?_); rintro e w1 ⟨rfl, hb1⟩)
  go_wp2_with fail
  ((with_reducible refine (HT.out _ hb1).mono ?_); rintro e w2 ⟨rfl, hb2⟩)
  go_wp2_with fail
  ((with_reducible refine (asks_calls s (by omega) a l c ha _).mono ?_); rintro e w3 ⟨rfl, hb3⟩)
  go_wp2_with fail
  ((with_reducible refine (asks_calls t (by omega) _ _ _ (by omega) _).mono ?_); rintro e w4 ⟨rfl, hb4⟩)
  go_wp2_with fail
  ((with_reducible refine (asks_calls s (by omega) _ _ _ (by omega) _).mono ?_); rintro e w5 ⟨rfl, hb5⟩)
  go_wp2_with fail
  ((with_reducible refine (asks_calls (t ++ s) hts l a c hl2 _).mono ?_); rintro e w6 ⟨rfl, hb6⟩)
  go_wp2_with fail
  go_ret
  exact ⟨rfl, Below.next (Below.next (Below.next (Below.next (Below.next hb1 hb2 (Nat.le_refl _)) hb3 (Nat.le_refl _)) hb4 (Nat.le_refl _)) hb5 (Nat.le_refl _)) hb6 (Nat.le_refl _)⟩

set_option maxRecDepth 100000 in
theorem lifted (os : Os) (started : os.Started) (H : Type) (enc : TypeId × Value → H) :
    ReturnsInHanded {} Try.checked os 3 .any (Rows.utfAsksSpec.pre6 enc Try.prog Try.f3 Rows.utfAsksRow.domain false) (Rows.utfAsksSpec.post enc Try.prog Try.f3 false true false false) := by
  refine returnsInHanded_of_change (C := Try.checked) law.own started (by kernel_rfl) Try.func3
    (ChangeSpec.witness6 (enc := enc) (C := Try.checked) false ⟨#[], #[.string .empty, .int .i64 0, .int .i64 0, .int .i64 0, .slice none 0 0, .int .u8 0], []⟩ 8 (by kernel_rfl) (by kernel_rfl) (by kernel_rfl) (by kernel_rfl)) ?_
  intro W base args ds gs before hval0 hW _ _
  have hval : ∀ (j : Nat) t v, Try.f3.params[j]? = some t → args[j]? = some v → Value.okWide Try.prog W .any base t v := hval0
  have hW' := hW
  obtain ⟨p, q, hA0, hV, rfl, _, _⟩ := hW
  have hA : DataW.TrodAll enc Try.prog W 0 (fun _ => true) true Try.f3.params.toList args.toList ds p := hA0
  rw [Try.params3] at hA hval
  obtain ⟨v0, vs0, d0, ds0, p0, q0, hargs, rfl, rfl, h0, r0⟩ := trodAll_cons hA
  obtain ⟨v1, vs1, d1, ds1, p1, q1, rfl, rfl, rfl, h1, r1⟩ := trodAll_cons r0
  obtain ⟨v2, vs2, d2, ds2, p2, q2, rfl, rfl, rfl, h2, r2⟩ := trodAll_cons r1
  obtain ⟨v3, vs3, d3, ds3, p3, q3, rfl, rfl, rfl, h3, r3⟩ := trodAll_cons r2
  obtain ⟨v4, vs4, d4, ds4, p4, q4, rfl, rfl, rfl, h4, r4⟩ := trodAll_cons r3
  obtain ⟨v5, vs5, d5, ds5, p5, q5, rfl, rfl, rfl, h5, r5⟩ := trodAll_cons r4
  obtain ⟨rfl, rfl, rfl⟩ := trodAll_nil r5
  obtain rfl : args = #[v0, v1, v2, v3, v4, v5] := by cases args; simp_all
  obtain ⟨rfl, rfl⟩ := trodVars_none hV
  obtain ⟨s, rfl, rfl, rfl, hmax⟩ := open_string Try.underlying9 (hval 0 9 v0 rfl rfl) h0
  obtain ⟨k1, rfl, rfl, rfl, hk1⟩ := open_int Try.underlying3 (hval 1 3 v1 rfl rfl) h1
  obtain ⟨k2, rfl, rfl, rfl, hk2⟩ := open_int Try.underlying3 (hval 2 3 v2 rfl rfl) h2
  obtain ⟨k3, rfl, rfl, rfl, hk3⟩ := open_int Try.underlying3 (hval 3 3 v3 rfl rfl) h3
  obtain ⟨bs, hbs⟩ := law.open_bytes (hval 4 22 v4 rfl rfl) h4
  obtain ⟨k5, rfl, rfl, rfl, hk5⟩ := open_int Try.underlying5 (hval 5 5 v5 rfl rfl) h5
  have g1 := law.i64_wf hk1
  have g2 := law.i64_wf hk2
  have g5 := law.u8_wf hk5
  have walk : Calls Try.prog 3 #[.string s, .int .i64 k1, .int .i64 k2, .int .i64 k3, v4, .int .u8 k5] W fun e W' => e = .returned (.bool true) ∧ Below W.heap.size W W' := by
    by_cases h : 300 < s.size
    · exact walk_long s hmax h k1 k2 k3 k5 v4 W
    · exact walk_short s (by omega) k1 k2 k3 k5 g1.2 g2.2 g5.1 g5.2 v4 bs W hbs
  refine (walk).mono fun e W' ⟨he, hb⟩ => ⟨_, he, ?_⟩
  exact law.law_post rfl hW' rfl (by kernel_rfl) (by kernel_rfl) hb

/-- UtfAsks, for every input. -/
theorem holds : Rows.UtfAsksSaid :=
  OpenClaim.holds_of_wide 3 Try.f3 rfl rfl rfl rfl rfl rfl rfl ⟨rfl, rfl, rfl, rfl, rfl⟩ rfl rfl rfl rfl rfl (by kernel_rfl) Try.func3 (by kernel_rfl)
    (of_decide_eq_true (by kernel_rfl)) (by unfold Func.isWrapper; first | (rw [if_pos (by decide +kernel)]; kernel_rfl) | (rw [if_neg (by decide +kernel)]; exact ⟨rfl, rfl⟩))
    (fun os started H enc _ => lifted os started H enc)
end Go.Proofs.Ytmcjjkjolbpneaa.utfAsks
