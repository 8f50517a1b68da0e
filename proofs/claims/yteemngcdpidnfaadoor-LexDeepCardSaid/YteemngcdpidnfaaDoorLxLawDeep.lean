/-
  subeditorlaw04.LexDeep: for every input it returns true, and the arguments read as they did. No condition.
-/
import Derived.Test.YteemngcdpidnfaaDoorLxMath3
import Derived.Test.YteemngcdpidnfaaDoorCards
import Derived.Test.YteemngcdpidnfaaDoorTie
import Derived.SevenTiedAt
namespace Go.Proofs.YteemngcdpidnfaaDoor.lexDeep
open Go.RowKit Go.ChangeShapes Go.WideShapes Go.ChangeAt Go.ChangeMaps
open sg (OpsAt lst_len)
open lx
set_option linter.unusedVariables false

theorem u16_wf {n : Int} (h : (Lit.int .u16 n).wf = true) : 0 ≤ n ∧ n ≤ 65535 := by simpa [Lit.wf, IntKind.min, IntKind.max, IntKind.signed, IntKind.bits] using h

theorem ba_ext {a b : ByteArray} (h : a.data.toList = b.data.toList) : a = b := by rw [← Lib.mk_data a, ← Lib.mk_data b, h]
theorem app_data (a b : ByteArray) : (a ++ b).data.toList = a.data.toList ++ b.data.toList := by rw [ByteArray.data_append, Array.toList_append]
theorem mk_list (l : List UInt8) : (⟨l.toArray⟩ : ByteArray).data.toList = l := by simp

theorem opens_app (k : Nat) (r : List UInt8) : Lx.opens k [] ++ r = Lx.opens k r := by
  induction k with
  | zero => rfl
  | succ k ih => simp only [Lx.opens, List.cons_append, ih]
theorem opens_snoc (k : Nat) : Lx.opens (k + 1) [] = Lx.opens k [] ++ [34, 92, 40] := by
  rw [opens_app]
  induction k with
  | zero => rfl
  | succ k ih => rw [Lx.opens, ih]; rfl
theorem opens_len (k : Nat) (r : List UInt8) : (Lx.opens k r).length = 3 * k + r.length := by
  induction k with
  | zero => simp [Lx.opens]
  | succ k ih => simp only [Lx.opens, List.length_cons, ih]; omega
theorem closes_snoc (k : Nat) : Lx.closes (k + 1) = Lx.closes k ++ [41, 34] := by
  induction k with
  | zero => rfl
  | succ k ih =>
    show 41 :: 34 :: Lx.closes (k + 1) = (41 :: 34 :: Lx.closes k) ++ [41, 34]
    rw [ih]; rfl
theorem closes_len (k : Nat) : (Lx.closes k).length = 2 * k := by
  induction k with
  | zero => rfl
  | succ k ih => simp only [Lx.closes, List.length_cons, ih]; omega
def A (j : Nat) : ByteArray := ⟨(Lx.opens j []).toArray⟩
def B (k j : Nat) : ByteArray := ⟨(Lx.opens k (49 :: Lx.closes j)).toArray⟩
theorem A_size (j : Nat) : (A j).size = 3 * j := by rw [← lst_len]; unfold A; rw [mk_list, opens_len]; simp
theorem B_size (k j : Nat) : (B k j).size = 3 * k + 1 + 2 * j := by rw [← lst_len]; unfold B; rw [mk_list, opens_len, List.length_cons, closes_len]; omega
theorem A_next (j : Nat) : A j ++ ⟨#[34, 92, 40]⟩ = A (j + 1) := ba_ext (by rw [app_data]; unfold A; rw [mk_list, mk_list, opens_snoc])
theorem B_start (k : Nat) : A k ++ ⟨#[49]⟩ = B k 0 := ba_ext (by rw [app_data]; unfold A B; rw [mk_list, mk_list, opens_app]; rfl)
theorem B_next (k j : Nat) : B k j ++ ⟨#[41, 34]⟩ = B k (j + 1) := ba_ext (by
  rw [app_data]; unfold B; rw [mk_list, mk_list, ← opens_app k (49 :: Lx.closes j), ← opens_app k (49 :: Lx.closes (j + 1)), List.append_assoc, closes_snoc]
  rfl)
theorem opens_ascii (k : Nat) (r : List UInt8) (h : ∀ b ∈ r, b.toNat < 128) : ∀ b ∈ Lx.opens k r, b.toNat < 128 := by
  induction k with
  | zero => exact h
  | succ k ih =>
    intro b hb
    simp only [Lx.opens, List.mem_cons] at hb
    rcases hb with rfl | rfl | rfl | hb
    · decide
    · decide
    · decide
    · exact ih b hb
theorem closes_ascii (k : Nat) : ∀ b ∈ Lx.closes k, b.toNat < 128 := by
  induction k with
  | zero => intro b hb; cases hb
  | succ k ih =>
    intro b hb
    simp only [Lx.closes, List.mem_cons] at hb
    rcases hb with rfl | rfl | hb
    · decide
    · decide
    · exact ih b hb
theorem B_ok (k : Nat) : Ok (B k k).data.toList := by
  unfold B; rw [mk_list]
  refine ok_ascii (opens_ascii k _ ?_)
  intro b hb
  rcases List.mem_cons.1 hb with rfl | hb
  · decide
  · exact closes_ascii k b hb
theorem toks_in (k : Nat) (hk : k ≤ 256) : ∃ l, tokensF (B k k).data.toList (utf.checkF (B k k)) = (l, 0, 0) ∧ l.length = 4 * k + 1 := by
  have h := Lx.lex_opens k 0 (by omega)
  rw [Nat.zero_add, Lx.out_start] at h
  refine ⟨(Lx.lexA Lx.start (B k k).data.toList).1, ?_, ?_⟩
  · rw [tokensF_ok (B_ok k) (by rw [B_size]; omega) (l := (Lx.lexA Lx.start (B k k).data.toList).1) (e := 0) ?_, if_pos rfl]
    have : (Lx.lexA Lx.start (B k k).data.toList).2 = 0 := by unfold B; rw [mk_list]; exact h.1
    rw [← this]
  · unfold B; rw [mk_list, h.2]; omega
theorem toks_deep (k : Nat) (hk : 256 < k) (hk2 : k < 300) : ∃ at' : Int, tokensF (B k k).data.toList (utf.checkF (B k k)) = ([], 21, at') := by
  have h := Lx.lex_deep k 0 (49 :: Lx.closes k) (by omega) (by omega)
  rw [Lx.out_start] at h
  refine ⟨(Lx.size (Lx.lexA Lx.start (B k k).data.toList).1 : Int), ?_⟩
  rw [tokensF_ok (B_ok k) (by rw [B_size]; omega) (l := (Lx.lexA Lx.start (B k k).data.toList).1) (e := 21) ?_, if_neg (by decide)]
  have : (Lx.lexA Lx.start (B k k).data.toList).2 = 21 := by unfold B; rw [mk_list]; exact h
  rw [← this]

set_option maxRecDepth 100000 in
set_option maxHeartbeats 4000000 in
theorem walk (x : Int) (h0 : 0 ≤ x) (h1 : x ≤ 65535) (w : World) (hw : OpsAt w) :
    Calls Tryd.prog 6 #[.int .u16 x] w fun e W' => e = .returned (.bool true) ∧ Below w.heap.size w W' := by
  obtain ⟨k, hk⟩ : ∃ k : Nat, x % 300 = (k : Int) := ⟨(x % 300).toNat, by omega⟩
  have hk1 : k < 300 := by omega
  have hx32 : x.tmod 300 = (k : Int) := by rw [Int.tmod_eq_emod_of_nonneg h0]; exact hk
  have HW := Lib.hid hw
  clear hw
  go_enter Tryd.func6, Tryd.ntmps6
  go_wp2_with fail
  clear hx32 hk
  go_loop [4, 5] (fun t i => ∃ j : Nat, j ≤ k ∧ i = .int .i64 (j : Int) ∧ t = .string (A j)) (fun _ i => k - (intOf i).toNat)
  case atStart => exact ⟨0, Nat.zero_le _, rfl, rfl⟩
  case round =>
    obtain ⟨j, hj, rfl, rfl⟩ := hrel
    have hs := A_size j
    by_cases hlt : j < k
    · have hlt1 : (j : Int) < (k : Int) := by omega
      have hsum : ¬ (9223372036854775807 < (A j).size + (⟨#[34, 92, 40]⟩ : ByteArray).size) := by rw [hs]; show ¬ (9223372036854775807 < 3 * j + 3); omega
      have HN := Lib.hid (A_next j)
      clear hs
      go_wp2
      go_round
      case rel => exact ⟨j + 1, by omega, by go_num, by rw [HN.out]⟩
      case measure => simp [intOf]; omega
    · obtain rfl : j = k := by omega
      have hge : decide ((j : Int) < (j : Int)) = false := by simp
      have hsum : ¬ (9223372036854775807 < (A j).size + (⟨#[49]⟩ : ByteArray).size) := by rw [hs]; show ¬ (9223372036854775807 < 3 * j + 1); omega
      have HB := Lib.hid (B_start j)
      clear hs
      go_wp2
      rw [HB.out]
      go_loop [4, 6] (fun t i => ∃ m : Nat, m ≤ j ∧ i = .int .i64 (m : Int) ∧ t = .string (B j m)) (fun _ i => j - (intOf i).toNat)
      case atStart => exact ⟨0, Nat.zero_le _, rfl, rfl⟩
      case round =>
        obtain ⟨m, hm, rfl, rfl⟩ := hrel
        have hs := B_size j m
        by_cases hlt2 : m < j
        · have hlt3 : (m : Int) < (j : Int) := by omega
          have hsum2 : ¬ (9223372036854775807 < (B j m).size + (⟨#[41, 34]⟩ : ByteArray).size) := by rw [hs]; show ¬ (9223372036854775807 < 3 * j + 1 + 2 * m + 2); omega
          have HN := Lib.hid (B_next j m)
          clear hs hsum
          go_wp2
          go_round
          case rel => exact ⟨m + 1, by omega, by go_num, by rw [HN.out]⟩
          case measure => simp [intOf]; omega
        · obtain rfl : m = j := by omega
          clear hs hsum
          by_cases h256 : m ≤ 256
          · obtain ⟨l, hl, hlen⟩ := toks_in m h256
            have hto := tokens_as (B m m) w HW.out l 0 0 hl
            have t1 : decide ((m : Int) ≤ 256) = true := decide_eq_true (by omega)
            have hlen2 : ((l.length : Nat) : Int) = 4 * (m : Int) + 1 := by omega
            have HL := Lib.hid hlen2
            have w1 : wrap64 (4 * (m : Int)) = 4 * (m : Int) := IntWalk.wrap64_in _ (by omega)
            have w2 : wrap64 (4 * (m : Int) + 1) = 4 * (m : Int) + 1 := IntWalk.wrap64_in _ (by omega)
            obtain ⟨L, hL⟩ : ∃ L : Int, 4 * (m : Int) + 1 = L := ⟨_, rfl⟩
            have te : (((l.length : Nat) : Int) == 4 * (m : Int) + 1) = true := by rw [beq_iff_eq]; exact hlen2
            clear hl hlen hlen2 hL
            go_wp2_with fail
            ((with_reducible refine hto.mono ?_); rintro e w2 ⟨v, rfl, ⟨ao, cap, rfl, _⟩, hb2⟩)
            go_wp2_with fail
            ((with_reducible refine (known_calls _ (HW.out.own hb2)).mono ?_); rintro e w3 ⟨rfl, hb3⟩)
            go_wp2_with fail
            go_ret
            exact ⟨rfl, sg.Below.next hb2 hb3 (Nat.le_refl _)⟩
          · obtain ⟨at', hl⟩ := toks_deep m (by omega) hk1
            have hto := tokens_as (B m m) w HW.out _ _ _ hl
            have t1 : decide ((m : Int) ≤ 256) = false := decide_eq_false (by omega)
            clear hl
            go_wp2_with fail
            ((with_reducible refine hto.mono ?_); rintro e w2 ⟨v, rfl, ⟨ao, cap, rfl, _⟩, hb2⟩)
            go_wp2_with fail
            ((with_reducible refine (known_calls _ (HW.out.own hb2)).mono ?_); rintro e w3 ⟨rfl, hb3⟩)
            go_wp2_with fail
            go_ret
            exact ⟨rfl, sg.Below.next hb2 hb3 (Nat.le_refl _)⟩

set_option maxRecDepth 100000 in
theorem lifted (os : Os) (started : os.Started) (H : Type) (enc : TypeId × Value → H) :
    ReturnsInHanded {} Tryd.checked os 6 .any (fun w args => (Rows.lexDeepSpec.pre enc Tryd.prog Tryd.f6 Rows.lexDeepRow.domain false w args ∧ laidMetH Tryd.prog lx.laid w) ∧ sizedMet enc Tryd.prog Tryd.f6 (OpenSpec.ofChange Rows.lexDeepSpec) false w args) (Rows.lexDeepSpec.post enc Tryd.prog Tryd.f6 false true false false) := by
  refine returnsInHanded_of_change_and (C := Tryd.checked) (X := fun w _ => laidMetH Tryd.prog lx.laid w) (fun _ _ _ hh h => h.of_heap hh) law.own started (by kernel_rfl) Tryd.func6
    (ChangeSpec.witness_shaped (enc := enc) (C := Tryd.checked) (os := os) (X := fun w _ => laidMetH Tryd.prog lx.laid w) false (World.laidAll Tryd.prog os lx.laid) #[.int .u16 0] 8 (World.laidAll_os _ _ _) (World.shaped_of_ZipB (by kernel_rfl) (by kernel_rfl)) (by kernel_rfl) (by kernel_rfl) (by kernel_rfl) (lx.laid_met os _)) ?_
  intro W base args ds gs before hval0 hW _ hsize0 hL _
  have hsize : (DataW.weightsEach Tryd.prog (Tryd.f6.params.toList ++ _) (ds ++ gs)).all (· ≤ reachBytes) = true := hsize0
  have hOps := lx.ops_of_laid hL
  have hval : ∀ (j : Nat) t v, Tryd.f6.params[j]? = some t → args[j]? = some v → Value.okWide Tryd.prog W .any base t v := hval0
  have hW' := hW
  obtain ⟨p, q, hA0, hV, rfl, _, _⟩ := hW
  have hA : DataW.TrodAll enc Tryd.prog W 0 (fun _ => true) true Tryd.f6.params.toList args.toList ds p := hA0
  rw [Tryd.params6] at hA hval
  obtain ⟨v0, d0, rfl, rfl, h0⟩ := trodAll_one hA
  obtain ⟨rfl, rfl⟩ := trodVars_none hV
  obtain ⟨x, rfl, rfl, rfl, wx⟩ := open_int Tryd.underlying28 (hval 0 28 v0 rfl rfl) h0
  have hx := u16_wf wx
  clear hL
  refine (walk x hx.1 hx.2 W hOps).mono fun e W' ⟨he, hb⟩ => ⟨_, he, ?_⟩
  exact law.law_post rfl hW' rfl (by kernel_rfl) (by kernel_rfl) hb

/-- LexDeep, for every input. -/
theorem holds : Rows.LexDeepSaid :=
  OpenClaim.holds_of_wide 6 Tryd.f6 rfl rfl rfl rfl rfl rfl rfl ⟨rfl, rfl, rfl, rfl, rfl⟩ rfl rfl rfl rfl rfl (by kernel_rfl) Tryd.func6 (by kernel_rfl)
    (of_decide_eq_true (by kernel_rfl)) (by unfold Func.isWrapper; first | (rw [if_pos (by decide +kernel)]; kernel_rfl) | (rw [if_neg (by decide +kernel)]; exact ⟨rfl, rfl⟩))
    (fun os started H enc _ => lifted os started H enc)

/-- The tied card of LexDeep. -/
theorem card : Rows.LexDeepCardSaid :=
  Claim7.holds_tied_plain_at .later [] [.data, .data, .pinned] true Rows.lexDeepCard.stood.harness false
    holds (fun _ h => by cases h) (by kernel_rfl) (fun _ h => by cases h) lexDeep_row_tie rfl ⟨rfl, rfl⟩ (by kernel_rfl) rfl
    (fun f fn hf hfn => by
      obtain rfl : f = 6 := Option.some.inj ((show Tryd.prog.funcNamed "subeditor/subeditorlaw04.LexDeep" = some 6 by kernel_rfl).symm.trans hf) |>.symm
      obtain rfl : fn = Tryd.f6 := (Option.some.inj (Tryd.func6.symm.trans hfn)).symm
      exact ⟨by kernel_rfl, fun j t ht => by
        rw [Tryd.params6] at ht
        have hm := List.mem_toArray.1 (Array.mem_of_getElem? ht)
        have hall : (Tryd.f6.params.toList.all fun u => !Tryd.prog.wantsStandIn u) = true := by kernel_rfl
        rw [show Tryd.f6.params.toList = _ from congrArg Array.toList Tryd.params6] at hall
        exact (show Tryd.prog.wantsStandIn t = false by simpa using List.all_eq_true.1 hall t hm)⟩)
    (by kernel_rfl)
end Go.Proofs.YteemngcdpidnfaaDoor.lexDeep
