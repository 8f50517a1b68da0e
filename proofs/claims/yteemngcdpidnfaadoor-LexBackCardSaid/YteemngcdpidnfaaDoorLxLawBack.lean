/-
  subeditorlaw04.LexBack: for every input it returns true, and the arguments read as they did. No condition.
-/
import Derived.Test.YteemngcdpidnfaaDoorLxCut
import Derived.Test.YteemngcdpidnfaaDoorLxEqual
import Derived.Test.YteemngcdpidnfaaDoorLxSource
import Derived.Test.YteemngcdpidnfaaDoorCards
import Derived.Test.YteemngcdpidnfaaDoorTie
import Derived.SevenTiedAt
namespace Go.Proofs.YteemngcdpidnfaaDoor.lexBack
open Go.RowKit Go.ChangeShapes Go.WideShapes Go.ChangeAt Go.ChangeMaps
open sg (OpsAt lst_len)
open lx
set_option linter.unusedVariables false

theorem kinds_outside : ∀ e ∈ Lx.outside, 1 ≤ e.1 ∧ e.1 ≤ 13 := by simp [Lx.outside]
theorem kinds_tried (x : Lx.Lex) : ∀ e ∈ Lx.tried x, 1 ≤ e.1 ∧ e.1 ≤ 13 := by
  unfold Lx.tried
  split
  · simp [Lx.inside]
  · split
    · intro e he
      rcases List.mem_cons.1 he with rfl | he
      · simp
      · exact kinds_outside e he
    · exact kinds_outside
/-- The tokens of what is told: none without a byte, each of a kind; one behind the other they are the source. -/
theorem lex_back (x : Lx.Lex) (l : List UInt8) (h : (Lx.lexA x l).2 = 0) : Lx.join (Lx.lexA x l).1 = l ∧ ∀ t ∈ (Lx.lexA x l).1, t.2 ≠ [] ∧ 1 ≤ t.1 ∧ t.1 ≤ 13 := by
  generalize hn : l.length = n
  induction n using Nat.strongRecOn generalizing l x with
  | ind n ih =>
    subst hn
    by_cases h0 : l = []
    · subst h0; rw [Lx.lexA_nil]; exact ⟨rfl, fun t ht => by simp at ht⟩
    · cases hx : Lx.next x l with
      | error e =>
        rw [Lx.lexA_err hx h0] at h
        simp only at h
        rcases Lx.next_err_ne hx with h1 | h1 | h1 <;> omega
      | ok p =>
        obtain ⟨k, n, y⟩ := p
        have hl := Lx.next_le hx
        rw [Lx.lexA_ok hx h0] at h ⊢
        obtain ⟨h1, h2⟩ := ih (l.drop n).length (by rw [List.length_drop]; omega) y (l.drop n) h rfl
        refine ⟨?_, fun t ht => ?_⟩
        · simp only [Lx.join, List.map_cons, List.flatten_cons]
          unfold Lx.join at h1
          rw [h1, List.take_append_drop]
        · rcases List.mem_cons.1 ht with rfl | ht
          · obtain ⟨_, e, he, rfl, _⟩ := Lx.find_some (Lx.next_find hx).1
            refine ⟨fun e0 => ?_, kinds_tried x e he⟩
            have := congrArg List.length e0
            simp only [List.length_take, List.length_nil] at this
            omega
          · exact h2 t ht
theorem joinT_map (l : List Lx.Tok) : joinT (l.map asTk) = Lx.join l := by
  simp only [joinT, Lx.join, List.map_map, Function.comp_def]
/-- What Tokens tells of a source of at most 300 bytes. -/
theorem back_math (s : ByteArray) (hs : s.size ≤ 300) (l : List Lx.Tok) (e at' : Int) (h : tokensF s.data.toList (utf.checkF s) = (l, e, at')) :
    (e ≠ 0 → l = [] ∧ 0 ≤ at' ∧ at' ≤ s.size) ∧ (e = 0 → at' = 0 ∧ l.length ≤ 301 ∧ (⟨(joinT (l.map asTk)).toArray⟩ : ByteArray) = s ∧ sizeT (l.map asTk) ≤ 300 ∧ rightT (l.map asTk) = true ∧ ∀ t ∈ l.map asTk, t.2.toList.isEmpty = false ∧ 1 ≤ t.1 ∧ t.1 ≤ 13) := by
  have hlen := tokensF_length s.data.toList (utf.checkF s)
  have hT := h
  rw [h, lst_len] at hlen
  simp only at hlen
  unfold tokensF at h
  rw [if_neg (by rw [lst_len]; omega)] at h
  by_cases hbad : 0 ≤ utf.checkF s
  · rw [if_pos hbad] at h
    cases h
    refine ⟨fun _ => ⟨rfl, hbad, ?_⟩, fun h => by simp at h⟩
    rw [utf.checkF_L] at hbad ⊢
    rcases utf.chk_first s.data.toList.length s.data.toList 0 (Nat.le_refl _) with h | ⟨k, hk, h, _⟩
    · rw [h]; omega
    · rw [h]; rw [lst_len] at hk; omega
  · rw [if_neg hbad] at h
    by_cases h0 : (Lx.lexA Lx.start s.data.toList).2 = 0
    · obtain ⟨h1, h2⟩ := lex_back Lx.start s.data.toList h0
      rw [if_pos h0] at h
      cases h
      have hj : joinT ((Lx.lexA Lx.start s.data.toList).1.map asTk) = s.data.toList := by rw [joinT_map, h1]
      have hja : (⟨(joinT ((Lx.lexA Lx.start s.data.toList).1.map asTk)).toArray⟩ : ByteArray) = s := by rw [hj, Lib.mk_data]
      have hsz : sizeT ((Lx.lexA Lx.start s.data.toList).1.map asTk) = s.size := by rw [← joinT_len, hj, lst_len]
      refine ⟨fun h => absurd rfl h, fun _ => ⟨rfl, by omega, hja, by omega, ?_, ?_⟩⟩
      · unfold rightT
        rw [hja, hj, hT, hsz, decide_eq_false (by omega), decide_eq_true rfl]; rfl
      · intro t ht
        obtain ⟨u, hu, rfl⟩ := List.mem_map.1 ht
        obtain ⟨g1, g2⟩ := h2 u hu
        refine ⟨?_, g2⟩
        simp only [toList_eq]
        cases hq : u.2 with
        | nil => exact absurd hq g1
        | cons a r => rfl
    · rw [if_neg h0] at h
      cases h
      refine ⟨fun _ => ⟨rfl, by omega, ?_⟩, fun h => absurd h h0⟩
      have := Lx.size_le Lx.start s.data.toList
      rw [lst_len] at this
      omega

set_option maxRecDepth 100000 in
set_option maxHeartbeats 8000000 in
theorem back_calls (s : ByteArray) (hs : s.size ≤ 300) (w : World) (hw : OpsAt w) :
    Calls Tryd.prog 11 #[.string s] w fun e W' => e = .returned (.bool true) ∧ Below w.heap.size w W' := by
  obtain ⟨l, e, at', he⟩ : ∃ l e at', tokensF s.data.toList (utf.checkF s) = (l, e, at') := ⟨_, _, _, rfl⟩
  have hto := tokens_as s w hw l e at' he
  obtain ⟨hm1, hm2⟩ := back_math s hs l e at' he
  have HW := Lib.hid hw
  clear he hw
  by_cases h0 : e = 0
  · obtain ⟨rfl, hll, hj, hsz, hr, hall⟩ := hm2 h0
    subst h0
    clear hm1 hm2
    go_enter Tryd.func11, Tryd.ntmps11
    go_wp2_with fail
    ((with_reducible refine hto.mono ?_); rintro _ w2 ⟨v, rfl, ht, hb2⟩)
    have hT := ht.tks (by unfold maxLen; omega)
    clear ht
    generalize l.map asTk = ts at *
    obtain ⟨ao, cap, rfl, hm, hc⟩ := id hT
    unfold maxLen at hm
    have HT := Lib.hid hT; have HC := Lib.hid hc; have HA := Lib.hid hall
    clear hT hc hall
    go_wp2_with fail
    go_loopw [6] (fun i wr => ∃ k : Nat, k ≤ ts.length ∧ i = .int .i64 (k : Int) ∧ Below w2.heap.size w2 wr) (fun i _ => ts.length - (intOf i).toNat)
    case atStart => exact ⟨0, Nat.zero_le _, rfl, Below.refl _ _⟩
    case round =>
      obtain ⟨k, hk, rfl, hb⟩ := hrel
      have HB := Lib.hid hb
      by_cases hlt : k < ts.length
      · obtain ⟨t, ht⟩ : ∃ t, ts[k]? = some t := ⟨_, List.getElem?_eq_getElem hlt⟩
        obtain ⟨g, off, rfl, hg, c0, c1⟩ := HC.out k t ht
        have d0 := (hb.cell (p := ⟨g, off + k * 2, none⟩) hg).trans c0
        have d1 := (hb.cell (p := ⟨g, off + k * 2 + 1, none⟩) hg).trans c1
        obtain ⟨q0, q1, q2⟩ := HA.out t (List.mem_of_getElem? ht)
        have q3 : decide (t.1 < 1) = false := decide_eq_false (by omega)
        have q4 : decide (13 < t.1) = false := decide_eq_false (by omega)
        have hlt1 : (k : Int) < (ts.length : Int) := by omega
        clear c0 c1 hb ht
        go_wp2_with fail
        exact ⟨⟨k + 1, by omega, rfl, HB.out⟩, by simp [intOf]; omega⟩
      · obtain rfl : k = ts.length := by omega
        have hge : decide ((ts.length : Int) < (ts.length : Int)) = false := by simp
        have hjc := join_calls _ ts wr ((HT.out.below hb (Nat.le_refl _)).mono hb.size) (by omega)
        rw [hj] at hjc
        clear hb
        go_wp2_with fail
        ((with_reducible refine hjc.mono ?_); rintro _ w3 ⟨rfl, hb3⟩)
        have HB3 := Lib.hid (sg.Below.next HB.out hb3 (Nat.le_refl _))
        have hrc := right_calls _ ts w3 ((HT.out.below HB3.out (Nat.le_refl _)).mono HB3.out.size) (by omega) (HW.out.own (sg.Below.next hb2 HB3.out (Nat.le_refl _))) true hr
        clear hb3
        go_wp2_with fail
        ((with_reducible refine hrc.mono ?_); rintro _ w4 ⟨rfl, hb4⟩)
        go_wp2_with fail
        go_ret
        exact ⟨rfl, sg.Below.next (sg.Below.next hb2 HB3.out (Nat.le_refl _)) hb4 (Nat.le_refl _)⟩
  · obtain ⟨rfl, ha, hb⟩ := hm1 h0
    have e0 : (e == 0) = false := beq_eq_false_iff_ne.2 h0
    clear hm1 hm2
    go_enter Tryd.func11, Tryd.ntmps11
    go_wp2_with fail
    ((with_reducible refine hto.mono ?_); rintro _ w2 ⟨v, rfl, ⟨ao, cap, rfl, _⟩, hb2⟩)
    go_wp2_with fail
    go_ret
    exact ⟨rfl, hb2⟩

set_option maxRecDepth 100000 in
set_option maxHeartbeats 4000000 in
theorem walk (s : ByteArray) (v : Value) (bs : List Int) (w : World) (hv : law.BytesAt w v bs) (hw : OpsAt w) :
    Calls Tryd.prog 3 #[.string s, v] w fun e W' => e = .returned (.bool true) ∧ Below w.heap.size w W' := by
  have HW := Lib.hid hw
  have HV := Lib.hid hv
  clear hw hv
  by_cases hl : 300 < s.size
  · have hl1 : (300 : Int) < (s.size : Int) := by omega
    go_enter Tryd.func3, Tryd.ntmps3
    go_wp2_with fail
    ((with_reducible refine (known_calls _ HW.out).mono ?_); rintro _ w2 ⟨rfl, hb2⟩)
    go_wp2_with fail
    go_ret
    exact ⟨rfl, hb2⟩
  · have hl1 : (s.size : Int) ≤ 300 := by omega
    have hl2 : decide ((300 : Int) < (s.size : Int)) = false := decide_eq_false (by omega)
    go_enter Tryd.func3, Tryd.ntmps3
    go_wp2_with fail
    ((with_reducible refine (known_calls _ HW.out).mono ?_); rintro _ w2 ⟨rfl, hb2⟩)
    go_wp2_with fail
    ((with_reducible refine (back_calls s (by omega) _ (HW.out.own hb2)).mono ?_); rintro _ w3 ⟨rfl, hb3⟩)
    have HB3 := Lib.hid (sg.Below.next hb2 hb3 (Nat.le_refl _))
    clear hb2 hb3
    go_wp2_with fail
    ((with_reducible refine (source_calls v bs _ (HV.out.below HB3.out)).mono ?_); rintro _ w4 ⟨rfl, hb4⟩)
    have HB4 := Lib.hid (sg.Below.next HB3.out hb4 (Nat.le_refl _))
    clear hb4
    go_wp2_with fail
    ((with_reducible refine (back_calls _ (srcF_size bs) _ (HW.out.own HB4.out)).mono ?_); rintro _ w5 ⟨rfl, hb5⟩)
    go_wp2_with fail
    go_ret
    exact ⟨rfl, sg.Below.next HB4.out hb5 (Nat.le_refl _)⟩

set_option maxRecDepth 100000 in
theorem lifted (os : Os) (started : os.Started) (H : Type) (enc : TypeId × Value → H) :
    ReturnsInHanded {} Tryd.checked os 3 .any (fun w args => (Rows.lexBackSpec.pre enc Tryd.prog Tryd.f3 Rows.lexBackRow.domain false w args ∧ laidMetH Tryd.prog lx.laid w) ∧ sizedMet enc Tryd.prog Tryd.f3 (OpenSpec.ofChange Rows.lexBackSpec) false w args) (Rows.lexBackSpec.post enc Tryd.prog Tryd.f3 false true false false) := by
  refine returnsInHanded_of_change_and (C := Tryd.checked) (X := fun w _ => laidMetH Tryd.prog lx.laid w) (fun _ _ _ hh h => h.of_heap hh) law.own started (by kernel_rfl) Tryd.func3
    (ChangeSpec.witness_shaped (enc := enc) (C := Tryd.checked) (os := os) (X := fun w _ => laidMetH Tryd.prog lx.laid w) false (World.laidAll Tryd.prog os lx.laid) #[.string ⟨#[]⟩, .slice none 0 0] 8 (World.laidAll_os _ _ _) (World.shaped_of_ZipB (by kernel_rfl) (by kernel_rfl)) (by kernel_rfl) (by kernel_rfl) (by kernel_rfl) (lx.laid_met os _)) ?_
  intro W base args ds gs before hval0 hW _ hsize0 hL _
  have hsize : (DataW.weightsEach Tryd.prog (Tryd.f3.params.toList ++ _) (ds ++ gs)).all (· ≤ reachBytes) = true := hsize0
  have hOps := lx.ops_of_laid hL
  have hval : ∀ (j : Nat) t v, Tryd.f3.params[j]? = some t → args[j]? = some v → Value.okWide Tryd.prog W .any base t v := hval0
  have hW' := hW
  obtain ⟨p, q, hA0, hV, rfl, _, _⟩ := hW
  have hA : DataW.TrodAll enc Tryd.prog W 0 (fun _ => true) true Tryd.f3.params.toList args.toList ds p := hA0
  rw [Tryd.params3] at hA hval
  obtain ⟨v0, v1, d0, d1, p0, p1, rfl, rfl, rfl, h0, h1⟩ := trodAll_two hA
  obtain ⟨rfl, rfl⟩ := trodVars_none hV
  obtain ⟨s, rfl, rfl, rfl, _⟩ := open_string Tryd.underlying9 (hval 0 9 v0 rfl rfl) h0
  obtain ⟨bs, hbs⟩ := law.open_bytes (hval 1 22 v1 rfl rfl) h1
  clear hL
  refine (walk s v1 bs W hbs hOps).mono fun e W' ⟨he, hb⟩ => ⟨_, he, ?_⟩
  exact law.law_post rfl hW' rfl (by kernel_rfl) (by kernel_rfl) hb

/-- LexBack, for every input. -/
theorem holds : Rows.LexBackSaid :=
  OpenClaim.holds_of_wide 3 Tryd.f3 rfl rfl rfl rfl rfl rfl rfl ⟨rfl, rfl, rfl, rfl, rfl⟩ rfl rfl rfl rfl rfl (by kernel_rfl) Tryd.func3 (by kernel_rfl)
    (of_decide_eq_true (by kernel_rfl)) (by unfold Func.isWrapper; first | (rw [if_pos (by decide +kernel)]; kernel_rfl) | (rw [if_neg (by decide +kernel)]; exact ⟨rfl, rfl⟩))
    (fun os started H enc _ => lifted os started H enc)

/-- The tied card of LexBack. -/
theorem card : Rows.LexBackCardSaid :=
  Claim7.holds_tied_plain_at .later [] [.data, .data, .pinned] true Rows.lexBackCard.stood.harness false
    holds (fun _ h => by cases h) (by kernel_rfl) (fun _ h => by cases h) lexBack_row_tie rfl ⟨rfl, rfl⟩ (by kernel_rfl) rfl
    (fun f fn hf hfn => by
      obtain rfl : f = 3 := Option.some.inj ((show Tryd.prog.funcNamed "subeditor/subeditorlaw04.LexBack" = some 3 by kernel_rfl).symm.trans hf) |>.symm
      obtain rfl : fn = Tryd.f3 := (Option.some.inj (Tryd.func3.symm.trans hfn)).symm
      exact ⟨by kernel_rfl, fun j t ht => by
        rw [Tryd.params3] at ht
        have hm := List.mem_toArray.1 (Array.mem_of_getElem? ht)
        have hall : (Tryd.f3.params.toList.all fun u => !Tryd.prog.wantsStandIn u) = true := by kernel_rfl
        rw [show Tryd.f3.params.toList = _ from congrArg Array.toList Tryd.params3] at hall
        exact (show Tryd.prog.wantsStandIn t = false by simpa using List.all_eq_true.1 hall t hm)⟩)
    (by kernel_rfl)
end Go.Proofs.YteemngcdpidnfaaDoor.lexBack
