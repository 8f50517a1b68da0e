/-
  subeditorlaw01.UtfJoin: for every input it returns true, and the arguments read as they did. No condition.
-/
import Derived.Test.YtmcjjkjolbpneaaUtfKnown
import Derived.Test.YtmcjjkjolbpneaaUtfLines
import Derived.Test.YtmcjjkjolbpneaaUtfMath
import Derived.Test.YtmcjjkjolbpneaaUtfRunes
namespace Go.Proofs.Ytmcjjkjolbpneaa.utfJoin
open Go.RowKit Go.ChangeShapes Go.WideShapes Go.ChangeAt Go.ChangeMaps
open utf
set_option linter.unusedVariables false

/-- The text that the loop has made behind k rounds. -/
def jk (q : Nat → ByteArray) : Nat → ByteArray
  | 0 => ⟨#[]⟩
  | k + 1 => if k = 0 then ⟨#[]⟩ ++ q 0 else (jk q k ++ ⟨#[10]⟩) ++ q k
theorem jk_size (q : Nat → ByteArray) (hq : ∀ j, (q j).size ≤ 240) : ∀ k, (jk q k).size ≤ k * 241 := by
  intro k
  have e0 : (⟨#[]⟩ : ByteArray).size = 0 := rfl
  have e1 : (⟨#[10]⟩ : ByteArray).size = 1 := rfl
  induction k with
  | zero => simp [jk, e0]
  | succ k ih =>
    simp only [jk]
    split
    · have := hq 0
      rw [ByteArray.size_append, e0]; omega
    · have := hq k
      rw [ByteArray.size_append, ByteArray.size_append, e1]; omega
theorem joinNL_snoc (l : List (List UInt8)) (a : List UInt8) : Sp.joinNL (l ++ [a]) = if l = [] then a else Sp.joinNL l ++ 10 :: a := by
  induction l with
  | nil => simp [Sp.joinNL]
  | cons b r ih =>
    cases r with
    | nil => simp [Sp.joinNL]
    | cons c r' =>
      simp only [List.cons_append, Sp.joinNL] at ih ⊢
      rw [ih]
      simp
theorem app_toList (a b : ByteArray) : (a ++ b).data.toList = a.data.toList ++ b.data.toList := by simp
theorem jk_join (ls : List (List UInt8)) (q : Nat → ByteArray) (hq : ∀ (j : Nat) a, ls[j]? = some a → (q j).data.toList = a) : ∀ k, k ≤ ls.length → (jk q k).data.toList = Sp.joinNL (ls.take k) := by
  intro k
  induction k with
  | zero => intro _; simp [jk, Sp.joinNL]
  | succ k ih =>
    intro hk
    have hlt : k < ls.length := by omega
    rw [List.take_succ_eq_append_getElem hlt, joinNL_snoc]
    have hqk := hq k ls[k] (List.getElem?_eq_getElem hlt)
    simp only [jk]
    by_cases h0 : k = 0
    · subst h0
      rw [if_pos rfl, app_toList, hqk]
      simp
    · have hne : ls.take k ≠ [] := fun e => by
        have := congrArg List.length e
        rw [List.length_take, List.length_nil] at this
        omega
      rw [if_neg h0, if_neg hne, app_toList, app_toList, hqk, ih (by omega)]
      simp
theorem ba_ext {a b : ByteArray} (h : a.data.toList = b.data.toList) : a = b := by
  cases a; cases b; congr; exact Array.toList_inj.1 h

theorem check_at (t : ByteArray) (ht : t.size ≤ 480) (c : Int) (hc : checkF t = c) (w : World) :
    Calls Try.prog 15 #[.string t] w fun e W' => e = .returned (.int .i64 c) ∧ Below w.heap.size w W' := by
  have h := check_calls t (by omega) w
  rw [hc] at h
  exact h
theorem wide_at (t : ByteArray) (ht : t.size ≤ 480) (c : Nat) (hc : wideF t = c) (w : World) :
    Calls Try.prog 16 #[.string t] w fun e W' => e = .returned (.int .i64 (c : Int)) ∧ Below w.heap.size w W' := by
  have h := wide_calls t (by omega) w
  rw [hc] at h
  exact h
theorem wideF_le (t : ByteArray) : wideF t ≤ t.size := wideFrom_le t t.size 0

theorem shift_chk : ∀ (b : Nat) (l : List UInt8) (p d : Nat), chkL b l (p + d) = if chkL b l p = -1 then -1 else chkL b l p + d := by
  intro b
  induction b with
  | zero => intro l p d; rfl
  | succ b ih =>
    intro l p d
    simp only [chkL]
    split
    · rfl
    · split
      · rw [if_neg (by omega)]; omega
      · have := ih (l.drop (oneL l)) (p + oneL l) d
        rw [show p + oneL l + d = p + d + oneL l from by omega] at this
        exact this

theorem joined (s t : ByteArray) (h1 : checkF s = -1) (h2 : checkF t = -1) : checkF (s ++ t) = -1 ∧ wideF (s ++ t) = wideF s + wideF t := by
  rw [checkF_L] at h1 h2
  obtain ⟨g1, g2⟩ := chk_join s.data.toList.length s.data.toList t.data.toList 0 (s ++ t).data.toList.length t.data.toList.length (Nat.le_refl _) h1 (by rw [app_toList, List.length_append]; exact Nat.le_refl _) (Nat.le_refl _)
  rw [checkF_L, wideF_L, wideF_L, wideF_L]
  rw [← app_toList] at g1 g2
  refine ⟨?_, g2⟩
  rw [g1, shift_chk, h2, if_pos rfl]

set_option maxRecDepth 100000 in
set_option maxHeartbeats 8000000 in
theorem walk (v v' : Value) (bs bs' : List Int) (w : World) (hv : law.BytesAt w v bs) (hv' : law.BytesAt w v' bs') :
    Calls Try.prog 5 #[v, v'] w fun e w' => e = .returned (.bool true) ∧ Below w.heap.size w w' := by
  have hs := textF_size bs
  have hts := textF_size bs'
  have htx := text_calls v bs w hv
  have htx' : ∀ w1, Below w.heap.size w w1 → Calls Try.prog 10 #[v'] w1 fun e w' => e = .returned (.string (textF bs')) ∧ Below w1.heap.size w1 w' := fun w1 hb => text_calls v' bs' w1 (hv'.below hb)
  generalize textF bs = s at hs htx
  generalize textF bs' = t at hts htx'
  have HT := Lib.hid htx; have HT' := Lib.hid htx'
  clear htx htx' hv hv'
  have hln := lines_list s (by omega)
  obtain ⟨m, hm⟩ : ∃ m, (Sp.spansOf s.data.toList).length = m := ⟨_, rfl⟩
  have hmpos : 1 ≤ m := by
    have : (Sp.spansOf s.data.toList).length ≠ 0 := fun e => Sp.spans_ne _ 0 0 0 (List.length_eq_zero_iff.1 e)
    omega
  have hmle : m ≤ 241 := by have := Sp.spans_len s.data.toList 0 0 0; rw [size_toList] at this; unfold Sp.spansOf at hm; omega
  obtain ⟨q, hqd⟩ : ∃ q : Nat → ByteArray, q = fun j => let x := (Sp.spansOf s.data.toList).getD j (0, 0, 0); s.extract x.2.1 x.2.2 := ⟨_, rfl⟩
  have hq1 : ∀ (j : Nat) x, (Sp.spansOf s.data.toList)[j]? = some x → q j = s.extract x.2.1 x.2.2 := fun j x hx => by simp [hqd, List.getD, hx]
  have hqs : ∀ j, (q j).size ≤ 240 := fun j => by rw [hqd]; show (s.extract _ _).size ≤ 240; rw [ByteArray.size_extract]; omega
  have hjk : jk q m = s := by
    apply ba_ext
    rw [jk_join (Sp.linesF s.data.toList) q (fun j a ha => ?_) m (by rw [Sp.linesF, List.length_map, hm]; exact Nat.le_refl _)]
    · rw [List.take_of_length_le (by rw [Sp.linesF, List.length_map, hm]; exact Nat.le_refl _)]
      exact Sp.spans_join s.data.toList s.data.toList 0 0 0 rfl (Nat.le_refl _) (Nat.zero_le _)
    · rw [Sp.linesF, List.getElem?_map, Option.map_eq_some_iff] at ha
      obtain ⟨x, hx, rfl⟩ := ha
      have hbd := Sp.spans_bd _ 0 0 0 (Nat.le_refl _) x (List.mem_of_getElem? hx)
      rw [hq1 j x hx, Sp.cut, ByteArray.data_extract, Array.toList_extract, List.extract_eq_take_drop]
  rw [hm] at hln
  have HL := Lib.hid hln; have HM := Lib.hid hm; have HQ := Lib.hid hq1; have HJ := Lib.hid hjk; have HQS := Lib.hid hqs
  clear hln hm hq1 hjk hqs hqd
  have hmz : decide ((0 : Int) < (m : Int)) = true := decide_eq_true (by omega)
  go_enter Try.func5, Try.ntmps5
  go_wp2_with fail
  ((with_reducible refine HT.out.mono ?_); rintro e w1 ⟨rfl, hb1⟩)
  go_wp2_with fail
  ((with_reducible refine (HT'.out _ hb1).mono ?_); rintro e w2 ⟨rfl, hb2⟩)
  go_wp2_with fail
  ((with_reducible refine (HL.out _).mono ?_); rintro e w3 ⟨g, cap, rfl, hg0, hg1, hcells, hb3⟩)
  have HCE := Lib.hid hcells
  clear hcells
  go_wp2_with fail
  go_loop [8, 9] (fun x i => ∃ k : Nat, k ≤ m ∧ i = .int .i64 (k : Int) ∧ x = .string (jk q k)) (fun _ i => m - (intOf i).toNat)
  case atStart => exact ⟨0, Nat.zero_le _, rfl, rfl⟩
  case round =>
    obtain ⟨k, hk, rfl, rfl⟩ := hrel
    by_cases hkm : k < m
    · obtain ⟨x, hx⟩ : ∃ x, (Sp.spansOf s.data.toList)[k]? = some x := ⟨_, List.getElem?_eq_getElem (by rw [HM.out]; exact hkm)⟩
      have hcx : w3.cell? ⟨g, k, none⟩ = some (.string (q k)) := by rw [HQ.out k x hx]; exact HCE.out k x hx
      have hz1 := jk_size q HQS.out k
      have hz2 := HQS.out k
      have hz3 : (jk q k).size ≤ 60000 := by have : k * 241 ≤ 240 * 241 := Nat.mul_le_mul_right _ (by omega); omega
      clear hx hz1
      by_cases h0 : k = 0
      · subst h0
        have hd : decide ((0 : Int) < ((0 : Nat) : Int)) = false := by decide
        have hsum : (jk q 0).size + (q 0).size ≤ maxLen := by unfold maxLen; omega
        go_wp2_with fail
        go_round
        case rel => exact ⟨1, by omega, by go_num, by simp [jk]⟩
        case measure => simp [intOf]; omega
      · have hd : decide ((0 : Int) < (k : Int)) = true := decide_eq_true (by omega)
        have hd2 : decide (0 < k) = true := decide_eq_true (by omega)
        have hsum1 : (jk q k).size + (⟨#[10]⟩ : ByteArray).size ≤ maxLen := by unfold maxLen; rw [show (⟨#[10]⟩ : ByteArray).size = 1 from rfl]; omega
        have hsum : (jk q k ++ ⟨#[10]⟩).size + (q k).size ≤ maxLen := by unfold maxLen; rw [ByteArray.size_append, show (⟨#[10]⟩ : ByteArray).size = 1 from rfl]; omega
        have hjs := show jk q (k + 1) = (jk q k ++ ⟨#[10]⟩) ++ q k from by simp [jk, h0]
        have HJS := Lib.hid hjs
        clear hjs
        go_wp2_with fail
        go_round
        case rel => exact ⟨k + 1, by omega, by go_num, by rw [HJS.out]⟩
        case measure => simp [intOf]; omega
    · obtain rfl : k = m := by omega
      rw [HJ.out]
      have hsum : s.size + t.size ≤ maxLen := by unfold maxLen; omega
      rcases chk_first s.data.toList.length s.data.toList 0 (Nat.le_refl _) with hc | ⟨a, ha, hc, _, _⟩
      · rw [← checkF_L] at hc
        rcases chk_first t.data.toList.length t.data.toList 0 (Nat.le_refl _) with hc' | ⟨a', ha', hc', _, _⟩
        · rw [← checkF_L] at hc'
          obtain ⟨hj1, hj2⟩ := joined s t hc hc'
          have hw1 := wideF_le s
          have hw2 := wideF_le t
          obtain ⟨n1, hn1⟩ : ∃ n, wideF s = n := ⟨_, rfl⟩
          obtain ⟨n2, hn2⟩ : ∃ n, wideF t = n := ⟨_, rfl⟩
          rw [hn1] at hw1 hj2
          rw [hn2] at hw2 hj2
          have hst : (s ++ t).size ≤ 480 := by rw [ByteArray.size_append]; omega
          have hbe : ((n1 : Int) + (n2 : Int) == (n1 : Int) + (n2 : Int)) = true := by simp
          have J1 := Lib.hid hj1; have J2 := Lib.hid hj2; have N1 := Lib.hid hn1; have N2 := Lib.hid hn2; have C1 := Lib.hid hc; have C2 := Lib.hid hc'
          clear hc hc' hj1 hj2 hn1 hn2
          go_wp2_with fail
          ((with_reducible refine (check_at s (by omega) _ C1.out _).mono ?_); rintro e w4 ⟨rfl, hb4⟩)
          go_wp2_with fail
          ((with_reducible refine (check_at t (by omega) _ C2.out _).mono ?_); rintro e w5 ⟨rfl, hb5⟩)
          go_wp2_with fail
          ((with_reducible refine (known_calls _).mono ?_); rintro e w6 ⟨rfl, hb6⟩)
          go_wp2_with fail
          ((with_reducible refine (check_at (s ++ t) hst _ J1.out _).mono ?_); rintro e w7 ⟨rfl, hb7⟩)
          go_wp2_with fail
          ((with_reducible refine (wide_at (s ++ t) hst _ J2.out _).mono ?_); rintro e w8 ⟨rfl, hb8⟩)
          go_wp2_with fail
          ((with_reducible refine (wide_at s (by omega) _ N1.out _).mono ?_); rintro e w9 ⟨rfl, hb9⟩)
          go_wp2_with fail
          ((with_reducible refine (wide_at t (by omega) _ N2.out _).mono ?_); rintro e wx ⟨rfl, hbx⟩)
          go_wp2_with fail
          go_ret
          exact ⟨rfl, Below.next (Below.next (Below.next (Below.next (Below.next (Below.next (Below.next (Below.next (Below.next hb1 hb2 (Nat.le_refl _)) hb3 (Nat.le_refl _)) hb4 (Nat.le_refl _)) hb5 (Nat.le_refl _)) hb6 (Nat.le_refl _)) hb7 (Nat.le_refl _)) hb8 (Nat.le_refl _)) hb9 (Nat.le_refl _)) hbx (Nat.le_refl _)⟩
        · rw [← checkF_L, Nat.zero_add] at hc'
          have C1 := Lib.hid hc; have C2 := Lib.hid hc'
          have hnn : decide ((a' : Int) < 0) = false := decide_eq_false (by omega)
          clear hc hc'
          go_wp2_with fail
          ((with_reducible refine (check_at s (by omega) _ C1.out _).mono ?_); rintro e w4 ⟨rfl, hb4⟩)
          go_wp2_with fail
          ((with_reducible refine (check_at t (by omega) _ C2.out _).mono ?_); rintro e w5 ⟨rfl, hb5⟩)
          go_wp2_with fail
          ((with_reducible refine (known_calls _).mono ?_); rintro e w6 ⟨rfl, hb6⟩)
          go_wp2_with fail
          go_ret
          exact ⟨rfl, Below.next (Below.next (Below.next (Below.next (Below.next hb1 hb2 (Nat.le_refl _)) hb3 (Nat.le_refl _)) hb4 (Nat.le_refl _)) hb5 (Nat.le_refl _)) hb6 (Nat.le_refl _)⟩
      · rw [← checkF_L, Nat.zero_add] at hc
        have C1 := Lib.hid hc
        have hnn : decide ((a : Int) < 0) = false := decide_eq_false (by omega)
        clear hc
        go_wp2_with fail
        ((with_reducible refine (check_at s (by omega) _ C1.out _).mono ?_); rintro e w4 ⟨rfl, hb4⟩)
        go_wp2_with fail
        ((with_reducible refine (known_calls _).mono ?_); rintro e w6 ⟨rfl, hb6⟩)
        go_wp2_with fail
        go_ret
        exact ⟨rfl, Below.next (Below.next (Below.next (Below.next hb1 hb2 (Nat.le_refl _)) hb3 (Nat.le_refl _)) hb4 (Nat.le_refl _)) hb6 (Nat.le_refl _)⟩

set_option maxRecDepth 100000 in
theorem lifted (os : Os) (started : os.Started) (H : Type) (enc : TypeId × Value → H) :
    ReturnsInHanded {} Try.checked os 5 .any (Rows.utfJoinSpec.pre6 enc Try.prog Try.f5 Rows.utfJoinRow.domain false) (Rows.utfJoinSpec.post enc Try.prog Try.f5 false true false false) := by
  refine returnsInHanded_of_change (C := Try.checked) law.own started (by kernel_rfl) Try.func5
    (ChangeSpec.witness6 (enc := enc) (C := Try.checked) false ⟨#[], #[.slice none 0 0, .slice none 0 0], []⟩ 8 (by kernel_rfl) (by kernel_rfl) (by kernel_rfl) (by kernel_rfl)) ?_
  intro W base args ds gs before hval0 hW _ _
  have hval : ∀ (j : Nat) t v, Try.f5.params[j]? = some t → args[j]? = some v → Value.okWide Try.prog W .any base t v := hval0
  have hW' := hW
  obtain ⟨p, q, hA0, hV, rfl, _, _⟩ := hW
  have hA : DataW.TrodAll enc Try.prog W 0 (fun _ => true) true Try.f5.params.toList args.toList ds p := hA0
  rw [Try.params5] at hA hval
  obtain ⟨v0, v1, d0, d1, p0, p1, rfl, rfl, rfl, h0, h1⟩ := trodAll_two hA
  obtain ⟨rfl, rfl⟩ := trodVars_none hV
  obtain ⟨bs, hbs⟩ := law.open_bytes (hval 0 22 v0 rfl rfl) h0
  obtain ⟨bs', hbs'⟩ := law.open_bytes (hval 1 22 v1 rfl rfl) h1
  refine (walk v0 v1 bs bs' W hbs hbs').mono fun e W' ⟨he, hb⟩ => ⟨_, he, ?_⟩
  exact law.law_post rfl hW' rfl (by kernel_rfl) (by kernel_rfl) hb

/-- UtfJoin, for every input. -/
theorem holds : Rows.UtfJoinSaid :=
  OpenClaim.holds_of_wide 5 Try.f5 rfl rfl rfl rfl rfl rfl rfl ⟨rfl, rfl, rfl, rfl, rfl⟩ rfl rfl rfl rfl rfl (by kernel_rfl) Try.func5 (by kernel_rfl)
    (of_decide_eq_true (by kernel_rfl)) (by unfold Func.isWrapper; first | (rw [if_pos (by decide +kernel)]; kernel_rfl) | (rw [if_neg (by decide +kernel)]; exact ⟨rfl, rfl⟩))
    (fun os started H enc _ => lifted os started H enc)
end Go.Proofs.Ytmcjjkjolbpneaa.utfJoin
