/-
  subeditorlaw04.LexLong: for every input it returns true, and the arguments read as they did. No condition.
-/
import Derived.OwnWalk
import Derived.Laws.BytesArg
import Derived.Test.YteemngcdpidnfaaDoorLxMath2
import Derived.Test.YteemngcdpidnfaaDoorCards
import Derived.Test.YteemngcdpidnfaaDoorTie
import Derived.SevenTiedAt
namespace Go.Proofs.YteemngcdpidnfaaDoor.lexLong
open Go.RowKit Go.ChangeShapes Go.WideShapes Go.ChangeAt Go.ChangeMaps
open sg (OpsAt lst_len)
open lx
set_option linter.unusedVariables false

theorem u32_wf {n : Int} (h : (Lit.int .u32 n).wf = true) : 0 ≤ n ∧ n ≤ 4294967295 := by simpa [Lit.wf, IntKind.min, IntKind.max, IntKind.signed, IntKind.bits] using h
theorem infoB : (Tryd.prog.info? 5).map (fun i => (i.zero, i.size, i.bytes)) = some (some (.int .u8 0), 1, 1) := by kernel_rfl

/-- The bytes, of which i are laid. -/
def fills (i k : Nat) : List Value := List.replicate i (.int .u8 32) ++ List.replicate (k - i) (.int .u8 0)
theorem fills_zero (k : Nat) : fills 0 k = List.replicate k (.int .u8 0) := by simp [fills]
theorem fills_set (i k : Nat) (h : i < k) : (fills i k).set i (.int .u8 32) = fills (i + 1) k := by
  unfold fills
  obtain ⟨m, hm⟩ : ∃ m, k - i = m + 1 := ⟨k - i - 1, by omega⟩
  rw [hm, show k - (i + 1) = m by omega, List.replicate_succ, List.set_append_right _ _ (by simp)]
  simp [List.replicate_succ', List.append_assoc]
theorem made_zeros (k : Nat) : (madeCells (Value.int .u8 0).cells (k * 1)).toList = List.replicate k (.int .u8 0) := by
  rw [Nat.mul_one]
  apply List.ext_getElem
  · simp [size_madeCells]
  · intro i h1 h2
    simp [madeCells, Value.cells, Nat.mod_one]
def spaces (k : Nat) : ByteArray := ⟨(List.replicate k 32).toArray⟩
theorem spaces_data (k : Nat) : (spaces k).data.toList = List.replicate k 32 := by simp [spaces]
theorem spaces_size (k : Nat) : (spaces k).size = k := by rw [← lst_len, spaces_data]; simp
theorem spaces_num (k : Nat) : strOfNums (List.replicate k 32) = spaces k := by
  have : (strOfNums (List.replicate k 32)).data.toList = (spaces k).data.toList := by rw [strOfNums_data, spaces_data]; simp
  rw [← Lib.mk_data (strOfNums _), ← Lib.mk_data (spaces k), this]

theorem toks_of (k : Nat) : tokensF (spaces k).data.toList (utf.checkF (spaces k)) = (if 65536 < k then ([], 3, 0) else if k = 0 then ([], 0, 0) else ([(1, List.replicate k 32)], 0, 0)) := by
  by_cases h : 65536 < k
  · rw [if_pos h]; exact tokensF_long (by rw [spaces_size]; exact h)
  · rw [if_neg h]
    have ho : Ok (spaces k).data.toList := by rw [spaces_data]; exact ok_ascii fun b hb => by rw [List.eq_of_mem_replicate hb]; decide
    by_cases h0 : k = 0
    · subst h0; decide +kernel
    · have hl : Lx.lexA Lx.start (spaces k).data.toList = ([(1, List.replicate k 32)], 0) := by rw [spaces_data, lex_blanks k (by omega)]
      rw [if_neg h0, tokensF_ok ho (by rw [spaces_size]; omega) hl, if_pos rfl]

set_option maxRecDepth 100000 in
set_option maxHeartbeats 4000000 in
theorem walk (x : Int) (h0 : 0 ≤ x) (h1 : x ≤ 4294967295) (w : World) (hw : OpsAt w) :
    Calls Tryd.prog 9 #[.int .u32 x] w fun e W' => e = .returned (.bool true) ∧ Below w.heap.size w W' := by
  obtain ⟨k, hk⟩ : ∃ k : Nat, x % 70000 = (k : Int) := ⟨(x % 70000).toNat, by omega⟩
  have hk1 : k < 70000 := by omega
  obtain ⟨i0, hi, hz0, hz1, hz2⟩ := info_parts infoB
  have HW := Lib.hid hw
  have hx32 : x.tmod 70000 = (k : Int) := by rw [Int.tmod_eq_emod_of_nonneg h0]; exact hk
  have HX := Lib.hid hx32
  clear hw
  go_enter Tryd.func9, Tryd.ntmps9
  go_wp2_with (at_make; refine wpList_make_full _ rfl _ _ 22 rfl w.heap.size 5 i0 (.int .u8 0) 1 Tryd.underlying22 hi hz0 hz1 .i64 .i64 _ _ k rfl rfl rfl rfl (by rw [hz2]; omega) (by unfold maxLen; omega) (Nat.le_refl _) ?_; intro w1 hown hgrow)
  rw [made_zeros] at hown
  have hb1 : Below w.heap.size w w1 := (Below.refl _ w).grown hgrow (Nat.le_refl _) (fun k e => by cases e)
  rw [← fills_zero] at hown
  go_loopw [5] (fun i wr => ∃ j : Nat, i = .int .i64 (j : Int) ∧ j ≤ k ∧ wr.ownsRow w.heap.size 5 1 (.slice (some ⟨w.heap.size, 0, none⟩) k k) k (fills j k) ∧ Below w.heap.size w wr) (fun i _ => k - (intOf i).toNat)
  case atStart => exact ⟨0, rfl, Nat.zero_le _, hown, hb1⟩
  case round =>
    obtain ⟨j, rfl, hj, ho, hb⟩ := hrel
    by_cases hlt : j < k
    · have hlt1 : (j : Int) < (k : Int) := by omega
      have hj0 : (0 : Int) ≤ (j : Int) := by omega
      obtain ⟨g0, cp0, cur, hve, hg0, hblk, _⟩ := own_some (by omega) ho
      have hcell : ∃ u, wr.cell? ⟨w.heap.size, j, none⟩ = some u := by
        have := ho.cellAt j (by omega)
        exact ⟨(fills j k)[j]'(by simp [fills]; omega), by rw [this, List.getElem?_eq_getElem]⟩
      obtain ⟨u, hc⟩ := hcell
      have hf : wr.frozen? ⟨w.heap.size, j, none⟩ = false := by cases hve; exact hblk.frozen j
      have ho2 := (ho.stored j (.int .u8 32)).1
      rw [fills_set j k hlt] at ho2
      have HO := Lib.hid ho2
      have HB := Lib.hid (hb.setCell (p := ⟨w.heap.size, j, none⟩) (Nat.le_refl _) (.int .u8 32))
      clear ho2 ho hblk hve hb hown hgrow
      go_wp2_with fail
      go_roundw
      case rel => exact ⟨j + 1, by go_num, by omega, HO.out, HB.out⟩
      case measure => simp [intOf]; omega
    · obtain rfl : j = k := by omega
      have hge : decide ((j : Int) < (j : Int)) = false := by simp
      have hcv := run_convert_bytes_arg (P := Tryd.prog) wr 22 5 Tryd.underlying22 Tryd.underlying5 w.heap.size 0 j j (List.replicate j 32) (by simp) (fun i hi => by
        have := ho.cellAt i (by omega)
        rw [show (0 + i) = i by omega, this]
        simp [fills, hi]) 9 Tryd.underlying9
      rw [spaces_num] at hcv
      have hwr := HW.out.own hb
      have HB := Lib.hid hb
      have hT := toks_of j
      clear ho hb hown hgrow hb1
      by_cases hA : 65536 < j
      · rw [if_pos hA] at hT
        have hto := tokens_as (spaces j) wr hwr _ _ _ hT
        have t1 : decide ((j : Int) ≤ 65536) = false := decide_eq_false (by omega)
        have HWR := Lib.hid hwr
        clear hT hwr
        go_wp2_with fail
        ((with_reducible refine hto.mono ?_); rintro e w2 ⟨v, rfl, ⟨ao, cap, rfl, _⟩, hb2⟩)
        go_wp2_with fail
        ((with_reducible refine (known_calls _ (HWR.out.own hb2)).mono ?_); rintro e w3 ⟨rfl, hb3⟩)
        go_wp2_with fail
        go_ret
        exact ⟨rfl, sg.Below.next (sg.Below.next HB.out hb2 (Nat.le_refl _)) hb3 (Nat.le_refl _)⟩
      · rw [if_neg hA] at hT
        have t1 : decide ((j : Int) ≤ 65536) = true := decide_eq_true (by omega)
        by_cases hZ : j = 0
        · rw [if_pos hZ] at hT
          have hto := tokens_as (spaces j) wr hwr _ _ _ hT
          have HWR := Lib.hid hwr
          clear hT hwr
          subst hZ
          go_wp2_with fail
          ((with_reducible refine hto.mono ?_); rintro e w2 ⟨v, rfl, ⟨ao, cap, rfl, _⟩, hb2⟩)
          go_wp2_with fail
          ((with_reducible refine (known_calls _ (HWR.out.own hb2)).mono ?_); rintro e w3 ⟨rfl, hb3⟩)
          go_wp2_with fail
          go_ret
          exact ⟨rfl, sg.Below.next (sg.Below.next HB.out hb2 (Nat.le_refl _)) hb3 (Nat.le_refl _)⟩
        · rw [if_neg hZ] at hT
          have hto := tokens_as (spaces j) wr hwr _ _ _ hT
          have hmin : min (j : Int) 1 = 1 := by omega
          have HWR := Lib.hid hwr
          clear hT hwr
          go_wp2_with fail
          ((with_reducible refine hto.mono ?_); rintro e w2 ⟨v, rfl, ⟨ao, cap, rfl, _⟩, hb2⟩)
          go_wp2_with fail
          ((with_reducible refine (known_calls _ (HWR.out.own hb2)).mono ?_); rintro e w3 ⟨rfl, hb3⟩)
          go_wp2_with fail
          go_ret
          exact ⟨rfl, sg.Below.next (sg.Below.next HB.out hb2 (Nat.le_refl _)) hb3 (Nat.le_refl _)⟩

set_option maxRecDepth 100000 in
theorem lifted (os : Os) (started : os.Started) (H : Type) (enc : TypeId × Value → H) :
    ReturnsInHanded {} Tryd.checked os 9 .any (fun w args => (Rows.lexLongSpec.pre enc Tryd.prog Tryd.f9 Rows.lexLongRow.domain false w args ∧ laidMetH Tryd.prog lx.laid w) ∧ sizedMet enc Tryd.prog Tryd.f9 (OpenSpec.ofChange Rows.lexLongSpec) false w args) (Rows.lexLongSpec.post enc Tryd.prog Tryd.f9 false true false false) := by
  refine returnsInHanded_of_change_and (C := Tryd.checked) (X := fun w _ => laidMetH Tryd.prog lx.laid w) (fun _ _ _ hh h => h.of_heap hh) law.own started (by kernel_rfl) Tryd.func9
    (ChangeSpec.witness_shaped (enc := enc) (C := Tryd.checked) (os := os) (X := fun w _ => laidMetH Tryd.prog lx.laid w) false (World.laidAll Tryd.prog os lx.laid) #[.int .u32 0] 8 (World.laidAll_os _ _ _) (World.shaped_of_ZipB (by kernel_rfl) (by kernel_rfl)) (by kernel_rfl) (by kernel_rfl) (by kernel_rfl) (lx.laid_met os _)) ?_
  intro W base args ds gs before hval0 hW _ hsize0 hL _
  have hsize : (DataW.weightsEach Tryd.prog (Tryd.f9.params.toList ++ _) (ds ++ gs)).all (· ≤ reachBytes) = true := hsize0
  have hOps := lx.ops_of_laid hL
  have hval : ∀ (j : Nat) t v, Tryd.f9.params[j]? = some t → args[j]? = some v → Value.okWide Tryd.prog W .any base t v := hval0
  have hW' := hW
  obtain ⟨p, q, hA0, hV, rfl, _, _⟩ := hW
  have hA : DataW.TrodAll enc Tryd.prog W 0 (fun _ => true) true Tryd.f9.params.toList args.toList ds p := hA0
  rw [Tryd.params9] at hA hval
  obtain ⟨v0, d0, rfl, rfl, h0⟩ := trodAll_one hA
  obtain ⟨rfl, rfl⟩ := trodVars_none hV
  obtain ⟨x, rfl, rfl, rfl, wx⟩ := open_int Tryd.underlying40 (hval 0 40 v0 rfl rfl) h0
  have hx := u32_wf wx
  clear hL
  refine (walk x hx.1 hx.2 W hOps).mono fun e W' ⟨he, hb⟩ => ⟨_, he, ?_⟩
  exact law.law_post rfl hW' rfl (by kernel_rfl) (by kernel_rfl) hb

/-- LexLong, for every input. -/
theorem holds : Rows.LexLongSaid :=
  OpenClaim.holds_of_wide 9 Tryd.f9 rfl rfl rfl rfl rfl rfl rfl ⟨rfl, rfl, rfl, rfl, rfl⟩ rfl rfl rfl rfl rfl (by kernel_rfl) Tryd.func9 (by kernel_rfl)
    (of_decide_eq_true (by kernel_rfl)) (by unfold Func.isWrapper; first | (rw [if_pos (by decide +kernel)]; kernel_rfl) | (rw [if_neg (by decide +kernel)]; exact ⟨rfl, rfl⟩))
    (fun os started H enc _ => lifted os started H enc)

/-- The tied card of LexLong. -/
theorem card : Rows.LexLongCardSaid :=
  Claim7.holds_tied_plain_at .later [] [.data, .data, .pinned] true Rows.lexLongCard.stood.harness false
    holds (fun _ h => by cases h) (by kernel_rfl) (fun _ h => by cases h) lexLong_row_tie rfl ⟨rfl, rfl⟩ (by kernel_rfl) rfl
    (fun f fn hf hfn => by
      obtain rfl : f = 9 := Option.some.inj ((show Tryd.prog.funcNamed "subeditor/subeditorlaw04.LexLong" = some 9 by kernel_rfl).symm.trans hf) |>.symm
      obtain rfl : fn = Tryd.f9 := (Option.some.inj (Tryd.func9.symm.trans hfn)).symm
      exact ⟨by kernel_rfl, fun j t ht => by
        rw [Tryd.params9] at ht
        have hm := List.mem_toArray.1 (Array.mem_of_getElem? ht)
        have hall : (Tryd.f9.params.toList.all fun u => !Tryd.prog.wantsStandIn u) = true := by kernel_rfl
        rw [show Tryd.f9.params.toList = _ from congrArg Array.toList Tryd.params9] at hall
        exact (show Tryd.prog.wantsStandIn t = false by simpa using List.all_eq_true.1 hall t hm)⟩)
    (by kernel_rfl)
end Go.Proofs.YteemngcdpidnfaaDoor.lexLong
