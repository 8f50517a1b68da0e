/-
  subeditorlaw04.LexNotes: for every input it returns true, and the arguments read as they did. No condition.
-/
import Derived.Test.YteemngcdpidnfaaDoorLxMath3
import Derived.Test.YteemngcdpidnfaaDoorLxSource
import Derived.Test.YteemngcdpidnfaaDoorCards
import Derived.Test.YteemngcdpidnfaaDoorTie
import Derived.SevenTiedAt
namespace Go.Proofs.YteemngcdpidnfaaDoor.lexNotes
open Go.RowKit Go.ChangeShapes Go.WideShapes Go.ChangeAt Go.ChangeMaps
open sg (OpsAt lst_len)
open lx
set_option linter.unusedVariables false

theorem ba_ext {a b : ByteArray} (h : a.data.toList = b.data.toList) : a = b := by rw [← Lib.mk_data a, ← Lib.mk_data b, h]
theorem app_data (a b : ByteArray) : (a ++ b).data.toList = a.data.toList ++ b.data.toList := by rw [ByteArray.data_append, Array.toList_append]
theorem mk_list (l : List UInt8) : (⟨l.toArray⟩ : ByteArray).data.toList = l := by simp
def hs (j : Nat) : ByteArray := ⟨(35 :: List.replicate j 92).toArray⟩
theorem hs_size (j : Nat) : (hs j).size = j + 1 := by rw [← lst_len]; unfold hs; rw [mk_list]; simp
theorem hs_next (j : Nat) : hs j ++ ⟨#[92]⟩ = hs (j + 1) := ba_ext (by rw [app_data]; unfold hs; rw [mk_list, mk_list]; simp [List.replicate_succ'])
def en (cr : Bool) : ByteArray := if cr then ⟨#[13, 10]⟩ else ⟨#[10]⟩
def ns (m : Nat) (cr : Bool) : ByteArray := hs m ++ en cr ++ ⟨#[49]⟩
/-- What the first source's tokens are: one, where the slashes are odd; else three; the first one a note. -/
def Firsts (m : Nat) (l : List Lx.Tok) : Bool := l.length == (if m % 2 = 1 then 1 else 3) && (match l with | [] => false | t :: _ => t.1 == 2)
theorem ns_toks (m : Nat) (hm : m < 6) (cr : Bool) : (tokensF (ns m cr).data.toList (utf.checkF (ns m cr))).2 = (0, 0) ∧ Firsts m (tokensF (ns m cr).data.toList (utf.checkF (ns m cr))).1 = true := by
  have : m = 0 ∨ m = 1 ∨ m = 2 ∨ m = 3 ∨ m = 4 ∨ m = 5 := by omega
  rcases this with rfl | rfl | rfl | rfl | rfl | rfl <;> cases cr <;> decide +kernel

theorem tok_first (m : Nat) (hm : m < 6) (cr : Bool) (w : World) (hw : OpsAt w) (k : Nat) (hk : k = if m % 2 = 1 then 1 else 3) :
    Calls Tryd.prog 13 #[.string (ns m cr)] w fun e w' => ∃ g cap, e = .returned (.tuple #[.slice (some ⟨g, 0, none⟩) k cap, .int .u16 0, .int .i64 0]) ∧ w'.cell? ⟨g, 0, none⟩ = some (.int .i64 2) ∧ Below w.heap.size w w' := by
  obtain ⟨h1, h2⟩ := ns_toks m hm cr
  obtain ⟨l, hl⟩ : ∃ l, (tokensF (ns m cr).data.toList (utf.checkF (ns m cr))).1 = l := ⟨_, rfl⟩
  rw [hl] at h2
  unfold Firsts at h2
  rw [Bool.and_eq_true, beq_iff_eq, ← hk] at h2
  refine (tokens_as (ns m cr) w hw l 0 0 (Prod.ext hl h1)).mono ?_
  rintro e w' ⟨v, rfl, ht, hb⟩
  cases l with
  | nil => exact absurd h2.2 (by simp)
  | cons t r =>
    obtain ⟨g, cap, rfl, hg, hc⟩ := ht.some (by simp)
    have h3 : t.1 = 2 := by simpa using h2.2
    refine ⟨g, cap, by rw [h2.1], ?_, hb⟩
    have := (hc 0 t rfl).1
    rw [h3] at this
    exact this

/-- A plain text: no line feed, no backslash, nothing beyond ASCII. -/
def bad (b : UInt8) : Prop := b = 10 ∨ b = 92 ∨ 128 ≤ b.toNat
theorem note_toks (x : ByteArray) (hx : x.size ≤ 300) (h : ∀ b ∈ x.data.toList, ¬ bad b) :
    tokensF ((⟨#[49, 35]⟩ : ByteArray) ++ x).data.toList (utf.checkF ((⟨#[49, 35]⟩ : ByteArray) ++ x)) = ([(6, [49]), (2, 35 :: x.data.toList)], 0, 0) := by
  have hd : ((⟨#[49, 35]⟩ : ByteArray) ++ x).data.toList = 49 :: 35 :: x.data.toList := by rw [app_data]; rfl
  have ho : Ok ((⟨#[49, 35]⟩ : ByteArray) ++ x).data.toList := by
    rw [hd]
    refine ok_ascii fun b hb => ?_
    rcases List.mem_cons.1 hb with rfl | hb
    · decide
    · rcases List.mem_cons.1 hb with rfl | hb
      · decide
      · have := h b hb
        unfold bad at this
        omega
  have hl : Lx.lexA Lx.start ((⟨#[49, 35]⟩ : ByteArray) ++ x).data.toList = ([(6, [49]), (2, 35 :: x.data.toList)], 0) := by
    rw [hd]; exact Lx.lex_note _ (fun b hb e => h b hb (.inl e))
  rw [tokensF_ok ho (by rw [ByteArray.size_append]; show 2 + x.size ≤ 65536; omega) hl, if_pos rfl]
theorem tok_note (x : ByteArray) (hx : x.size ≤ 300) (h : ∀ b ∈ x.data.toList, ¬ bad b) (w : World) (hw : OpsAt w) :
    Calls Tryd.prog 13 #[.string ((⟨#[49, 35]⟩ : ByteArray) ++ x)] w fun e w' => ∃ g cap, e = .returned (.tuple #[.slice (some ⟨g, 0, none⟩) 2 cap, .int .u16 0, .int .i64 0]) ∧ w'.cell? ⟨g, 3, none⟩ = some (.string ((⟨#[35]⟩ : ByteArray) ++ x)) ∧ g < w'.heap.size ∧ Below w.heap.size w w' := by
  refine (tokens_as _ w hw _ _ _ (note_toks x hx h)).mono ?_
  rintro e w' ⟨v, rfl, ht, hb⟩
  obtain ⟨g, cap, rfl, hg, hc⟩ := ht.some (by simp)
  have := (hc 1 _ rfl).2
  simp only at this
  rw [show (⟨(35 :: x.data.toList).toArray⟩ : ByteArray) = (⟨#[35]⟩ : ByteArray) ++ x from ba_ext (by rw [app_data, mk_list]; rfl)] at this
  exact ⟨g, cap, rfl, this, hg, hb⟩

theorem get_at (x : ByteArray) (i : Nat) (hi : i < x.size) : x.data.toList[i]? = some (x[i]'hi) := Lib.data_getElem? x i hi

theorem good_next (x : ByteArray) (k : Nat) (h : k < x.size) (hg : ((((x[k]'h).toNat : Int) == 10) = false ∧ (((x[k]'h).toNat : Int) == 92) = false) ∧ ((x[k]'h).toNat : Int) < 128)
    (ha : ∀ b ∈ x.data.toList.take k, ¬ bad b) : ∀ b ∈ x.data.toList.take (k + 1), ¬ bad b := by
  intro b hb
  rw [List.take_add_one, get_at x k h, Option.toList_some, List.mem_append, List.mem_singleton] at hb
  rcases hb with hb | rfl
  · exact ha b hb
  · obtain ⟨⟨h1, h2⟩, h3⟩ := hg
    rw [beq_eq_false_iff_ne] at h1 h2
    rintro (h | h | h)
    · exact h1 (by rw [h]; rfl)
    · exact h2 (by rw [h]; rfl)
    · omega

set_option maxRecDepth 100000 in
set_option maxHeartbeats 8000000 in
theorem walk (n : Int) (h0 : 0 ≤ n) (h1 : n ≤ 255) (cr : Bool) (v : Value) (bs : List Int) (w : World) (hv : law.BytesAt w v bs) (hw : OpsAt w) :
    Calls Tryd.prog 5 #[.int .u8 n, .bool cr, v] w fun e W' => e = .returned (.bool true) ∧ Below w.heap.size w W' := by
  obtain ⟨m, hm⟩ : ∃ m : Nat, n % 6 = (m : Int) := ⟨(n % 6).toNat, by omega⟩
  have hm6 : m < 6 := by omega
  have ht6 : n.tmod 6 = (m : Int) := by rw [Int.tmod_eq_emod_of_nonneg h0]; exact hm
  have HW := Lib.hid hw; have HV := Lib.hid hv
  obtain ⟨x, hx⟩ : ∃ x, srcF bs = x := ⟨_, rfl⟩
  have hxs := srcF_size bs
  have hsc := fun w hv => source_calls v bs w hv
  rw [hx] at hxs
  simp only [hx] at hsc
  clear hw hv hx
  obtain ⟨k, hk⟩ : ∃ k : Nat, k = if m % 2 = 1 then 1 else 3 := ⟨_, rfl⟩
  have hk2 : (m % 2 = 1 ∧ k = 1) ∨ (m % 2 = 0 ∧ k = 3) := by
    by_cases h : m % 2 = 1
    · rw [if_pos h] at hk; exact .inl ⟨h, hk⟩
    · rw [if_neg h] at hk; exact .inr ⟨by omega, hk⟩
  have hto := fun w hw => tok_first m hm6 cr w hw k hk
  have HK := Lib.hid hk2
  clear hk hk2
  go_enter Tryd.func5, Tryd.ntmps5
  go_wp2_with fail
  go_loop [7, 8] (fun t i => ∃ j : Nat, j ≤ m ∧ i = .int .i64 (j : Int) ∧ t = .string (hs j)) (fun _ i => m - (intOf i).toNat)
  case atStart => exact ⟨0, Nat.zero_le _, rfl, rfl⟩
  case round =>
    obtain ⟨j, hj, rfl, rfl⟩ := hrel
    have hsz := hs_size j
    by_cases hlt : j < m
    · have hlt1 : (j : Int) < (m : Int) := by omega
      have hsum : ¬ (9223372036854775807 < (hs j).size + (⟨#[92]⟩ : ByteArray).size) := by rw [hsz]; show ¬ (9223372036854775807 < j + 1 + 1); omega
      have HN := Lib.hid (hs_next j)
      clear hsz
      go_wp2_with fail
      go_round
      case rel => exact ⟨j + 1, by omega, by go_num, by rw [HN.out]⟩
      case measure => simp [intOf]; omega
    · obtain rfl : j = m := by omega
      have hH := HV.out
      have hge : decide ((j : Int) < (j : Int)) = false := by simp
      cases cr
      all_goals
        unfold ns en at hto
        simp only [if_true, if_false, Bool.false_eq_true] at hto
        have hsum1 : ¬ (9223372036854775807 < (hs j).size + (⟨#[10]⟩ : ByteArray).size) := by rw [hsz]; show ¬ (9223372036854775807 < j + 1 + 1); omega
        have hsum2 : ¬ (9223372036854775807 < (hs j).size + (⟨#[13, 10]⟩ : ByteArray).size) := by rw [hsz]; show ¬ (9223372036854775807 < j + 1 + 2); omega
        have hsum3 : ¬ (9223372036854775807 < ((hs j) ++ (⟨#[10]⟩ : ByteArray)).size + (⟨#[49]⟩ : ByteArray).size) := by rw [ByteArray.size_append, hsz]; show ¬ (9223372036854775807 < j + 1 + 1 + 1); omega
        have hsum4 : ¬ (9223372036854775807 < ((hs j) ++ (⟨#[13, 10]⟩ : ByteArray)).size + (⟨#[49]⟩ : ByteArray).size) := by rw [ByteArray.size_append, hsz]; show ¬ (9223372036854775807 < j + 1 + 2 + 1); omega
        clear hsz hH
        go_wp2_with fail
        rcases HK.out with ⟨hk1, rfl⟩ | ⟨hk1, rfl⟩
        all_goals
          ((with_reducible refine (hto _ HW.out).mono ?_); rintro e w2 ⟨g, cap, rfl, hg, hb2⟩)
          first
          | (have hq1 : (j : Int) % 2 = 1 := by omega
             have hq2 : decide ((j : Int) % 2 = 1) = true := decide_eq_true hq1
             clear hk1
             go_wp2_with fail)
          | (have hq1 : (j : Int) % 2 = 0 := by omega
             have hq2 : decide ((j : Int) % 2 = 1) = false := by rw [hq1]; rfl
             clear hk1
             go_wp2_with fail)
          ((with_reducible refine (hsc _ (HV.out.below hb2)).mono ?_); rintro e w3 ⟨rfl, hb3⟩)
          have HB := Lib.hid (sg.Below.next hb2 hb3 (Nat.le_refl _))
          have hxs2 : x.size < 9223372036854775807 := by omega
          go_wp2_with fail
          go_loopw [15] (fun i wr => ∃ k : Nat, k ≤ x.size ∧ i = .int .i64 (k : Int) ∧ (∀ b ∈ x.data.toList.take k, ¬ bad b) ∧ Below w.heap.size w wr) (fun i _ => x.size - (intOf i).toNat)
          case atStart => exact ⟨0, Nat.zero_le _, rfl, (by simp), HB.out⟩
          case round =>
            obtain ⟨k, hk, rfl, hall, hb⟩ := hrel
            by_cases hlt : k < x.size
            · have hlt1 : (k : Int) < (x.size : Int) := by omega
              have HX := Lib.hid (And.intro hall hb)
              have hgn := good_next x k hlt
              clear hall hb
              go_wp2_with fail
              all_goals
                first
                | (((with_reducible refine (known_calls _ (HW.out.own HX.out.2)).mono ?_); rintro e w4 ⟨rfl, hb4⟩)
                   go_wp2_with fail
                   go_ret
                   exact ⟨rfl, sg.Below.next HX.out.2 hb4 (Nat.le_refl _)⟩)
                | (have hgd := hgn (by assumption) HX.out.1
                   go_wp2_with fail
                   go_roundw
                   case rel => exact ⟨k + 1, by omega, by go_num, hgd, HX.out.2⟩
                   case measure => simp [intOf]; omega)
            · obtain rfl : k = x.size := by omega
              have hge2 : decide ((x.size : Int) < (x.size : Int)) = false := by simp
              have hbad : ∀ b ∈ x.data.toList, ¬ bad b := fun b hb => hall b (by rw [List.take_of_length_le (by rw [lst_len]; omega)]; exact hb)
              have htn := fun w hw => tok_note x hxs hbad w hw
              have hs1 : ¬ (9223372036854775807 < (⟨#[49, 35]⟩ : ByteArray).size + x.size) := by show ¬ (9223372036854775807 < 2 + x.size); omega
              have hs2 : ¬ (9223372036854775807 < (⟨#[35]⟩ : ByteArray).size + x.size) := by show ¬ (9223372036854775807 < 1 + x.size); omega
              have HX := Lib.hid hb
              clear hall hb hbad
              go_wp2_with fail
              ((with_reducible refine (htn _ (HW.out.own HX.out)).mono ?_); rintro e w4 ⟨g2, cap2, rfl, hg2, hg2l, hb4⟩)
              have HB4 := Lib.hid (sg.Below.next HX.out hb4 (Nat.le_refl _))
              go_wp2_with fail
              ((with_reducible refine (known_calls _ (HW.out.own HB4.out)).mono ?_); rintro e w5 ⟨rfl, hb5⟩)
              have hg5 := (hb5.cell (p := ⟨g2, 3, none⟩) hg2l).trans hg2
              clear hg2
              go_wp2_with fail
              go_ret
              exact ⟨by first | rfl | simp, sg.Below.next HB4.out hb5 (Nat.le_refl _)⟩

set_option maxRecDepth 100000 in
theorem lifted (os : Os) (started : os.Started) (H : Type) (enc : TypeId × Value → H) :
    ReturnsInHanded {} Tryd.checked os 5 .any (fun w args => (Rows.lexNotesSpec.pre enc Tryd.prog Tryd.f5 Rows.lexNotesRow.domain false w args ∧ laidMetH Tryd.prog lx.laid w) ∧ sizedMet enc Tryd.prog Tryd.f5 (OpenSpec.ofChange Rows.lexNotesSpec) false w args) (Rows.lexNotesSpec.post enc Tryd.prog Tryd.f5 false true false false) := by
  refine returnsInHanded_of_change_and (C := Tryd.checked) (X := fun w _ => laidMetH Tryd.prog lx.laid w) (fun _ _ _ hh h => h.of_heap hh) law.own started (by kernel_rfl) Tryd.func5
    (ChangeSpec.witness_shaped (enc := enc) (C := Tryd.checked) (os := os) (X := fun w _ => laidMetH Tryd.prog lx.laid w) false (World.laidAll Tryd.prog os lx.laid) #[.int .u8 0, .bool false, .slice none 0 0] 8 (World.laidAll_os _ _ _) (World.shaped_of_ZipB (by kernel_rfl) (by kernel_rfl)) (by kernel_rfl) (by kernel_rfl) (by kernel_rfl) (lx.laid_met os _)) ?_
  intro W base args ds gs before hval0 hW _ hsize0 hL _
  have hsize : (DataW.weightsEach Tryd.prog (Tryd.f5.params.toList ++ _) (ds ++ gs)).all (· ≤ reachBytes) = true := hsize0
  have hOps := lx.ops_of_laid hL
  have hval : ∀ (j : Nat) t v, Tryd.f5.params[j]? = some t → args[j]? = some v → Value.okWide Tryd.prog W .any base t v := hval0
  have hW' := hW
  obtain ⟨p, q, hA0, hV, rfl, _, _⟩ := hW
  have hA : DataW.TrodAll enc Tryd.prog W 0 (fun _ => true) true Tryd.f5.params.toList args.toList ds p := hA0
  rw [Tryd.params5] at hA hval
  obtain ⟨v0, vs0, d0, ds0, p0, q0, hargs, rfl, rfl, h0, r0⟩ := trodAll_cons hA
  obtain ⟨v1, vs1, d1, ds1, p1, q1, rfl, rfl, rfl, h1, r1⟩ := trodAll_cons r0
  obtain ⟨v2, vs2, d2, ds2, p2, q2, rfl, rfl, rfl, h2, r2⟩ := trodAll_cons r1
  obtain ⟨rfl, rfl, rfl⟩ := trodAll_nil r2
  obtain rfl : args = #[v0, v1, v2] := by cases args; simp_all
  obtain ⟨rfl, rfl⟩ := trodVars_none hV
  obtain ⟨x, rfl, rfl, rfl, wx⟩ := open_int Tryd.underlying5 (hval 0 5 v0 rfl rfl) h0
  have hx := law.u8_wf wx
  obtain ⟨cr, rfl, rfl, rfl⟩ := open_bool Tryd.underlying4 (hval 1 4 v1 rfl rfl) h1
  obtain ⟨bs, hbs⟩ := law.open_bytes (hval 2 22 v2 rfl rfl) h2
  clear hL
  refine (walk x hx.1 hx.2 cr v2 bs W hbs hOps).mono fun e W' ⟨he, hb⟩ => ⟨_, he, ?_⟩
  exact law.law_post rfl hW' rfl (by kernel_rfl) (by kernel_rfl) hb

/-- LexNotes, for every input. -/
theorem holds : Rows.LexNotesSaid :=
  OpenClaim.holds_of_wide 5 Tryd.f5 rfl rfl rfl rfl rfl rfl rfl ⟨rfl, rfl, rfl, rfl, rfl⟩ rfl rfl rfl rfl rfl (by kernel_rfl) Tryd.func5 (by kernel_rfl)
    (of_decide_eq_true (by kernel_rfl)) (by unfold Func.isWrapper; first | (rw [if_pos (by decide +kernel)]; kernel_rfl) | (rw [if_neg (by decide +kernel)]; exact ⟨rfl, rfl⟩))
    (fun os started H enc _ => lifted os started H enc)

/-- The tied card of LexNotes. -/
theorem card : Rows.LexNotesCardSaid :=
  Claim7.holds_tied_plain_at .later [] [.data, .data, .pinned] true Rows.lexNotesCard.stood.harness false
    holds (fun _ h => by cases h) (by kernel_rfl) (fun _ h => by cases h) lexNotes_row_tie rfl ⟨rfl, rfl⟩ (by kernel_rfl) rfl
    (fun f fn hf hfn => by
      obtain rfl : f = 5 := Option.some.inj ((show Tryd.prog.funcNamed "subeditor/subeditorlaw04.LexNotes" = some 5 by kernel_rfl).symm.trans hf) |>.symm
      obtain rfl : fn = Tryd.f5 := (Option.some.inj (Tryd.func5.symm.trans hfn)).symm
      exact ⟨by kernel_rfl, fun j t ht => by
        rw [Tryd.params5] at ht
        have hm := List.mem_toArray.1 (Array.mem_of_getElem? ht)
        have hall : (Tryd.f5.params.toList.all fun u => !Tryd.prog.wantsStandIn u) = true := by kernel_rfl
        rw [show Tryd.f5.params.toList = _ from congrArg Array.toList Tryd.params5] at hall
        exact (show Tryd.prog.wantsStandIn t = false by simpa using List.all_eq_true.1 hall t hm)⟩)
    (by kernel_rfl)
end Go.Proofs.YteemngcdpidnfaaDoor.lexNotes
