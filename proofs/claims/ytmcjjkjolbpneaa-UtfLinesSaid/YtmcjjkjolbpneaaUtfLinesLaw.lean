/-
  subeditorlaw01.UtfLines: for every input it returns true, and the arguments read as they did. No condition.
-/
import Derived.Test.YtmcjjkjolbpneaaUtfKnown
import Derived.Test.YtmcjjkjolbpneaaUtfLines
import Derived.Test.YtmcjjkjolbpneaaUtfMath
namespace Go.Proofs.Ytmcjjkjolbpneaa.utfLines
open Go.RowKit Go.ChangeShapes Go.WideShapes Go.ChangeAt Go.ChangeMaps
open utf
set_option linter.unusedVariables false

theorem count_snoc (l : List UInt8) (k : Nat) (h : k < l.length) : (l.take (k + 1)).count 10 = (l.take k).count 10 + if l[k] = 10 then 1 else 0 := by
  rw [List.take_succ_eq_append_getElem h, List.count_append]
  by_cases e : l[k] = 10 <;> simp [e]

theorem byte_ne (s : ByteArray) (x : Nat × Nat × Nat) (hx : x ∈ Sp.spansOf s.data.toList) (j : Nat) (h : j < (s.extract x.2.1 x.2.2).size) : ((((s.extract x.2.1 x.2.2)[j]'h).toNat : Int) == 10) = false := by
  have hbd := Sp.spans_bd _ 0 0 0 (Nat.le_refl _) x hx
  rw [size_toList] at hbd
  have hsz : (s.extract x.2.1 x.2.2).size = x.2.2 - x.2.1 := by rw [ByteArray.size_extract]; omega
  have hcl := Sp.spans_clean s.data.toList s.data.toList 0 0 0 rfl (Nat.le_refl _) (fun j h1 h2 => by omega) x hx (x.2.1 + j) (by omega) (by omega)
  have hlt : x.2.1 + j < s.size := by omega
  have e : (s.extract x.2.1 x.2.2)[j]'h = s[x.2.1 + j]'hlt := by rw [ByteArray.getElem_extract]
  rw [e, beq_eq_false_iff_ne]
  intro h10
  apply hcl
  rw [List.getElem?_eq_getElem (by rw [size_toList]; exact hlt)]
  congr 1
  show s[x.2.1 + j]'hlt = 10
  apply UInt8.toNat_inj.1
  show (s[x.2.1 + j]'hlt).toNat = 10
  omega

set_option maxRecDepth 100000 in
set_option maxHeartbeats 4000000 in
theorem walk_long (s : ByteArray) (hs : s.size ≤ maxLen) (hl : 300 < s.size) (w : World) :
    Calls Try.prog 7 #[.string s] w fun e w' => e = .returned (.bool true) ∧ Below w.heap.size w w' := by
  unfold maxLen at hs
  have hd : decide ((300 : Int) < (s.size : Int)) = true := decide_eq_true (by omega)
  go_enter Try.func7, Try.ntmps7
  go_wp2_with fail
  ((with_reducible refine (known_calls _).mono ?_); rintro e w1 ⟨rfl, hb1⟩)
  go_wp2_with fail
  go_ret
  exact ⟨rfl, hb1⟩

set_option maxRecDepth 100000 in
set_option maxHeartbeats 4000000 in
theorem walk_short (s : ByteArray) (hl : s.size ≤ 300) (w : World) :
    Calls Try.prog 7 #[.string s] w fun e w' => e = .returned (.bool true) ∧ Below w.heap.size w w' := by
  have hd : decide ((300 : Int) < (s.size : Int)) = false := decide_eq_false (by omega)
  have hln := lines_list s (by omega)
  obtain ⟨m, hm⟩ : ∃ m, (Sp.spansOf s.data.toList).length = m := ⟨_, rfl⟩
  have hcnt := Sp.spans_count s.data.toList 0 0 0
  have hcm : s.data.toList.count 10 + 1 = m := by rw [← hm]; exact hcnt.symm
  have hcl : s.data.toList.count 10 ≤ s.data.toList.length := List.count_le_length
  rw [size_toList] at hcl
  have hmle : m ≤ 301 := by omega
  rw [hm] at hln
  have HL := Lib.hid hln; have HM := Lib.hid hm; have HC := Lib.hid hcm
  clear hln hm hcnt hcm hcl
  go_enter Try.func7, Try.ntmps7
  go_wp2_with fail
  go_loop [3, 4] (fun n i => ∃ k : Nat, k ≤ s.size ∧ i = .int .i64 (k : Int) ∧ n = .int .i64 (((s.data.toList.take k).count 10 : Nat) + 1 : Int)) (fun _ i => s.size - (intOf i).toNat)
  case atStart => exact ⟨0, Nat.zero_le _, rfl, rfl⟩
  case round =>
    obtain ⟨k, hk, rfl, rfl⟩ := hrel
    have hc1 : (s.data.toList.take k).count 10 ≤ (s.data.toList.take k).length := List.count_le_length
    have hc2 : (s.data.toList.take k).length ≤ k := List.length_take_le _ _
    by_cases hlt : k < s.size
    · have hsn := count_snoc s.data.toList k (by rw [size_toList]; exact hlt)
      by_cases h10 : s[k]'hlt = 10
      · have hb : (((s[k]'hlt).toNat : Int) == 10) = true := by rw [h10]; rfl
        have h10' : s.data.toList[k]'(by rw [size_toList]; exact hlt) = 10 := h10
        rw [if_pos h10'] at hsn
        have HS := Lib.hid hsn
        clear hsn h10 h10'
        go_wp2_with fail
        go_round
        case rel => exact ⟨k + 1, by omega, by go_num, by rw [HS.out]; go_num⟩
        case measure => simp [intOf]; omega
      · have hb : (((s[k]'hlt).toNat : Int) == 10) = false := by
          rw [beq_eq_false_iff_ne]
          intro e
          apply h10
          apply UInt8.toNat_inj.1
          show (s[k]'hlt).toNat = 10
          omega
        have h10' : ¬ s.data.toList[k]'(by rw [size_toList]; exact hlt) = 10 := h10
        rw [if_neg h10'] at hsn
        have HS := Lib.hid hsn
        clear hsn h10 h10'
        go_wp2_with fail
        go_round
        case rel => exact ⟨k + 1, by omega, by go_num, by rw [HS.out]; go_num⟩
        case measure => simp [intOf]; omega
    · have hfin : (((s.data.toList.take k).count 10 : Nat) + 1 : Int) = (m : Int) := by
        rw [List.take_of_length_le (by rw [size_toList]; omega)]
        have := HC.out; omega
      rw [hfin]
      clear hfin hc1 hc2
      have hmm : ((m : Int) == (m : Int)) = true := by simp
      go_wp2_with fail
      ((with_reducible refine (HL.out _).mono ?_); rintro e w2 ⟨g, cap, rfl, hg0, hg1, hcells, hb2⟩)
      have HCE := Lib.hid hcells
      clear hcells
      go_wp2_with fail
      go_loop [6, 7] (fun i _ => ∃ a : Nat, a ≤ m ∧ i = .int .i64 (a : Int)) (fun i _ => m - (intOf i).toNat)
      case atStart => exact ⟨0, Nat.zero_le _, rfl⟩
      case round =>
        obtain ⟨a, ha, rfl⟩ := hrel
        by_cases ham : a < m
        · obtain ⟨x, hx⟩ : ∃ x, (Sp.spansOf s.data.toList)[a]? = some x := ⟨_, List.getElem?_eq_getElem (by rw [HM.out]; exact ham)⟩
          have hcx : w2.cell? ⟨g, a, none⟩ = some (.string (s.extract x.2.1 x.2.2)) := HCE.out a x hx
          have hmem : x ∈ Sp.spansOf s.data.toList := List.mem_of_getElem? hx
          have hne := byte_ne s x hmem
          have hqs : (s.extract x.2.1 x.2.2).size ≤ 300 := by rw [ByteArray.size_extract]; omega
          generalize s.extract x.2.1 x.2.2 = q at hcx hne hqs
          have HNE := Lib.hid hne
          clear hne hx
          go_wp2_with fail
          go_loop [7] (fun i => ∃ j : Nat, j ≤ q.size ∧ i = .int .i64 (j : Int)) (fun i => q.size - (intOf i).toNat)
          case atStart => exact ⟨0, Nat.zero_le _, rfl⟩
          case round =>
            obtain ⟨j, hj, rfl⟩ := hrel
            by_cases hjq : j < q.size
            · have hb := HNE.out j hjq
              go_wp2_with fail
              go_round
              case rel => exact ⟨j + 1, by omega, by go_num⟩
              case measure => simp [intOf]; omega
            · go_wp2_with fail
              go_round
              case rel => exact ⟨a + 1, by omega, by go_num⟩
              case measure => simp [intOf]; omega
        · go_wp2_with fail
          ((with_reducible refine (known_calls _).mono ?_); rintro e w3 ⟨rfl, hb3⟩)
          go_wp2_with fail
          go_ret
          exact ⟨rfl, Below.next hb2 hb3 (Nat.le_refl _)⟩

set_option maxRecDepth 100000 in
theorem lifted (os : Os) (started : os.Started) (H : Type) (enc : TypeId × Value → H) :
    ReturnsInHanded {} Try.checked os 7 .any (Rows.utfLinesSpec.pre6 enc Try.prog Try.f7 Rows.utfLinesRow.domain false) (Rows.utfLinesSpec.post enc Try.prog Try.f7 false true false false) := by
  refine returnsInHanded_of_change (C := Try.checked) law.own started (by kernel_rfl) Try.func7
    (ChangeSpec.witness6 (enc := enc) (C := Try.checked) false ⟨#[], #[.string .empty], []⟩ 8 (by kernel_rfl) (by kernel_rfl) (by kernel_rfl) (by kernel_rfl)) ?_
  intro W base args ds gs before hval0 hW _ _
  have hval : ∀ (j : Nat) t v, Try.f7.params[j]? = some t → args[j]? = some v → Value.okWide Try.prog W .any base t v := hval0
  have hW' := hW
  obtain ⟨p, q, hA0, hV, rfl, _, _⟩ := hW
  have hA : DataW.TrodAll enc Try.prog W 0 (fun _ => true) true Try.f7.params.toList args.toList ds p := hA0
  rw [Try.params7] at hA hval
  obtain ⟨v0, d0, rfl, rfl, h0⟩ := trodAll_one hA
  obtain ⟨rfl, rfl⟩ := trodVars_none hV
  obtain ⟨s, rfl, rfl, rfl, hmax⟩ := open_string Try.underlying9 (hval 0 9 v0 rfl rfl) h0
  have walk : Calls Try.prog 7 #[.string s] W fun e W' => e = .returned (.bool true) ∧ Below W.heap.size W W' := by
    by_cases h : 300 < s.size
    · exact walk_long s hmax h W
    · exact walk_short s (by omega) W
  refine (walk).mono fun e W' ⟨he, hb⟩ => ⟨_, he, ?_⟩
  exact law.law_post rfl hW' rfl (by kernel_rfl) (by kernel_rfl) hb

/-- UtfLines, for every input. -/
theorem holds : Rows.UtfLinesSaid :=
  OpenClaim.holds_of_wide 7 Try.f7 rfl rfl rfl rfl rfl rfl rfl ⟨rfl, rfl, rfl, rfl, rfl⟩ rfl rfl rfl rfl rfl (by kernel_rfl) Try.func7 (by kernel_rfl)
    (of_decide_eq_true (by kernel_rfl)) (by unfold Func.isWrapper; first | (rw [if_pos (by decide +kernel)]; kernel_rfl) | (rw [if_neg (by decide +kernel)]; exact ⟨rfl, rfl⟩))
    (fun os started H enc _ => lifted os started H enc)
end Go.Proofs.Ytmcjjkjolbpneaa.utfLines
