/-
  subeditorlaw04.LexFirst: for every input it returns true, and the arguments read as they did. No condition.
-/
import Derived.Test.YteemngcdpidnfaaDoorLxCut
import Derived.Test.YteemngcdpidnfaaDoorLxSource
import Derived.Test.YteemngcdpidnfaaDoorLxMath2
import Derived.Test.YteemngcdpidnfaaDoorCards
import Derived.Test.YteemngcdpidnfaaDoorTie
import Derived.SevenTiedAt
namespace Go.Proofs.YteemngcdpidnfaaDoor.lexFirst
open Go.RowKit Go.ChangeShapes Go.WideShapes Go.ChangeAt Go.ChangeMaps
open sg (OpsAt lst_len)
open lx
set_option linter.unusedVariables false

theorem oneN_inner (n b0 b1 b2 b3 w : Nat) (h : utf.oneN n b0 b1 b2 b3 = w) (hw : w ≠ 0) : (1 < w → 128 ≤ b0 ∧ 128 ≤ b1) ∧ (2 < w → 128 ≤ b2) ∧ (3 < w → 128 ≤ b3) ∧ w ≤ 4 := by
  unfold utf.oneN at h
  repeat' split at h
  all_goals omega
theorem one_inner (l : List UInt8) (hw : utf.oneL l ≠ 0) (hn : 1 < utf.oneL l) (i : Nat) (hi : i < utf.oneL l) : 128 ≤ (l.getD i 0).toNat := by
  have hne : l ≠ [] := fun e => hw (by simp [utf.oneL, e])
  obtain ⟨w, hww⟩ : ∃ w, utf.oneL l = w := ⟨_, rfl⟩
  rw [hww] at hw hi hn
  unfold utf.oneL at hww
  rw [if_neg hne] at hww
  obtain ⟨h1, h2, h3, h4⟩ := oneN_inner _ _ _ _ _ w hww hw
  have hi4 : i = 0 ∨ i = 1 ∨ i = 2 ∨ i = 3 := by omega
  rcases hi4 with rfl | rfl | rfl | rfl
  · exact (h1 hn).1
  · exact (h1 hn).2
  · exact h2 hi
  · exact h3 hi
theorem ok_first {l : List UInt8} (h : Ok l) (hne : l ≠ []) : utf.oneL l ≠ 0 ∧ Ok (l.take (utf.oneL l)) ∧ Ok (l.drop (utf.oneL l)) := by
  unfold Ok at h
  have hle := utf.oneL_le l hne
  have hl : 1 ≤ l.length := by cases l with | nil => exact absurd rfl hne | cons a r => simp
  obtain ⟨b, hb⟩ : ∃ b, l.length = b + 1 := ⟨l.length - 1, by omega⟩
  rw [hb] at h
  simp only [utf.chkL] at h
  rw [if_neg hne] at h
  by_cases h0 : utf.oneL l = 0
  · rw [if_pos h0] at h; exact absurd h (by decide)
  · rw [if_neg h0] at h
    refine ⟨h0, ?_, ?_⟩
    · have ho := utf.oneL_local l [] h0
      rw [List.append_nil] at ho
      have hlt : (l.take (utf.oneL l)).length = utf.oneL l := by rw [List.length_take]; omega
      have hne2 : l.take (utf.oneL l) ≠ [] := fun e => by rw [e] at hlt; exact h0 hlt.symm
      obtain ⟨c, hc⟩ : ∃ c, utf.oneL l = c + 1 := ⟨utf.oneL l - 1, by omega⟩
      unfold Ok
      rw [hlt]
      conv => lhs; rw [show utf.chkL (utf.oneL l) = utf.chkL (c + 1) from by rw [hc]]
      simp only [utf.chkL]
      rw [if_neg hne2, ho, if_neg h0, List.drop_of_length_le (by omega), utf.chkL_nil]
    · have h1 := shift_chk b (l.drop (utf.oneL l)) 0 (utf.oneL l)
      rw [h] at h1
      unfold Ok
      rw [utf.chkL_fuel _ b _ 0 (Nat.le_refl _) (by rw [List.length_drop]; omega)]
      by_cases h2 : utf.chkL b (l.drop (utf.oneL l)) 0 = -1
      · exact h2
      · rw [if_neg h2] at h1
        rcases utf.chk_first b (l.drop (utf.oneL l)) 0 (by rw [List.length_drop]; omega) with h3 | ⟨k, _, h3, _⟩
        · exact h3
        · omega
/-- A text that is UTF-8 is so up to a place with a byte of ASCII on one side of it. -/
theorem ok_cut (l : List UInt8) (h : Ok l) (p : Nat) (hp : p ≤ l.length) (hb : p ≠ 0 → (l.getD p 0).toNat < 128 ∨ (l.getD (p - 1) 0).toNat < 128) : Ok (l.take p) := by
  generalize hn : l.length = n
  induction n using Nat.strongRecOn generalizing l p with
  | ind n ih =>
    subst hn
    by_cases h0 : p = 0
    · subst h0; exact ok_nil
    · have hne : l ≠ [] := fun e => by subst e; exact h0 (by simpa using hp)
      obtain ⟨w0, w1, w2⟩ := ok_first h hne
      have hle := utf.oneL_le l hne
      have hin := one_inner l w0
      obtain ⟨w, hw⟩ : ∃ w, utf.oneL l = w := ⟨_, rfl⟩
      rw [hw] at w0 w1 w2 hle hin
      by_cases hpw : p < w
      · have i1 := hin (by omega) p hpw
        have i2 := hin (by omega) (p - 1) (by omega)
        rcases hb h0 with hb | hb <;> omega
      · have ht : l.take p = l.take w ++ (l.drop w).take (p - w) := by
          rw [← List.take_add, show w + (p - w) = p by omega]
        rw [ht]
        refine ok_app w1 (ih (l.drop w).length (by rw [List.length_drop]; omega) _ w2 (p - w) (by rw [List.length_drop]; omega) (fun hp0 => ?_) rfl)
        have := hb h0
        rw [Lx.getD_drop', Lx.getD_drop']
        rwa [show w + (p - w) = p by omega, show w + (p - w - 1) = p - 1 by omega]

theorem chk_cases (s : ByteArray) : Ok s.data.toList ∨ 0 ≤ utf.checkF s := by
  rw [utf.checkF_L]
  unfold Ok
  rcases utf.chk_first s.data.toList.length s.data.toList 0 (Nat.le_refl _) with h | ⟨k, _, h, _⟩
  · exact .inl h
  · exact .inr (by omega)
/-- What the law asks: cut there, all can be told, or strings may not be ended. -/
theorem first_math (s : ByteArray) (hs : s.size ≤ 300) (l : List Lx.Tok) (e at' : Int) (h : tokensF s.data.toList (utf.checkF s) = (l, e, at')) (he : e = 11 ∨ e = 12) :
    ∃ p : Nat, at' = (p : Int) ∧ p ≤ s.size ∧ ∀ t : ByteArray, t.data.toList = s.data.toList.take p → ∃ m g p', tokensF t.data.toList (utf.checkF t) = (m, g, p') ∧ (g = 0 ∨ g = 13) := by
  unfold tokensF at h
  rw [if_neg (by rw [lst_len]; omega)] at h
  rcases chk_cases s with hok | hbad
  · rw [check_ok hok, if_neg (by decide)] at h
    obtain ⟨q, hq⟩ : ∃ q, Lx.lexA Lx.start s.data.toList = q := ⟨_, rfl⟩
    have hle := Lx.size_le Lx.start s.data.toList
    have hcut := Lx.lex_cut Lx.start s.data.toList
    have hedge := Lx.lex_edge Lx.start s.data.toList
    rw [hq] at h hle hcut hedge
    by_cases h0 : q.2 = 0
    · rw [if_pos h0] at h; cases h; omega
    · rw [if_neg h0] at h
      cases h
      rw [lst_len] at hle
      refine ⟨Lx.size q.1, rfl, hle, fun t ht => ?_⟩
      have hokt : Ok t.data.toList := by rw [ht]; exact ok_cut _ hok _ (by rw [lst_len]; exact hle) hedge
      have hts : t.size ≤ 300 := by rw [← lst_len, ht, List.length_take, lst_len]; omega
      obtain ⟨m, g, hmg⟩ : ∃ m g, Lx.lexA Lx.start t.data.toList = (m, g) := ⟨_, _, rfl⟩
      rw [← ht, hmg] at hcut
      have hto := tokensF_ok hokt (by omega) hmg
      by_cases hg0 : g = 0
      · rw [if_pos hg0] at hto; exact ⟨_, _, _, hto, .inl rfl⟩
      · rw [if_neg hg0] at hto; exact ⟨_, _, _, hto, hcut⟩
  · rw [if_pos hbad] at h; cases h; omega
theorem cut_list (s : ByteArray) (p : Nat) (h : p ≤ s.size) : (s.extract 0 p).data.toList = s.data.toList.take p := by
  rw [ByteArray.data_extract, Array.toList_extract]
  simp [List.extract]

set_option maxRecDepth 100000 in
set_option maxHeartbeats 8000000 in
theorem walk (v : Value) (bs : List Int) (w : World) (hv : law.BytesAt w v bs) (hw : OpsAt w) :
    Calls Tryd.prog 4 #[v] w fun e W' => e = .returned (.bool true) ∧ Below w.heap.size w W' := by
  have HW := Lib.hid hw
  obtain ⟨s, hs⟩ : ∃ s, srcF bs = s := ⟨_, rfl⟩
  have hss := srcF_size bs
  have hsc := source_calls v bs w hv
  rw [hs] at hss hsc
  clear hs hv hw
  obtain ⟨l, e, at', he⟩ : ∃ l e at', tokensF s.data.toList (utf.checkF s) = (l, e, at') := ⟨_, _, _, rfl⟩
  have hto := fun w hw => tokens_as s w hw l e at' he
  have hmath := first_math s hss l e at' he
  clear he
  go_enter Tryd.func4, Tryd.ntmps4
  go_wp2_with fail
  ((with_reducible refine hsc.mono ?_); rintro _ w2 ⟨rfl, hb2⟩)
  go_wp2_with fail
  ((with_reducible refine (hto _ (HW.out.own hb2)).mono ?_); rintro _ w3 ⟨v3, rfl, ht3, hb3⟩)
  have HB := Lib.hid (sg.Below.next hb2 hb3 (Nat.le_refl _))
  clear ht3 hb2 hb3
  by_cases h11 : e = 11 ∨ e = 12
  · obtain ⟨p, rfl, hp, hcut⟩ := hmath h11
    obtain ⟨m, g, q, hto2, hg⟩ := hcut (s.extract 0 p) (cut_list s p hp)
    have hts := fun w hw => tokens_as (s.extract 0 p) w hw m g q hto2
    have hpi : (p : Int) ≤ (s.size : Int) := by omega
    have hpg : decide ((s.size : Int) < (p : Int)) = false := decide_eq_false (by omega)
    clear hto2 hcut hmath
    rcases h11 with rfl | rfl
    all_goals
      go_wp2_with fail
      ((with_reducible refine (hts _ (HW.out.own HB.out)).mono ?_); rintro _ w4 ⟨v4, rfl, ht4, hb4⟩)
      clear ht4
      have HB4 := Lib.hid (sg.Below.next HB.out hb4 (Nat.le_refl _))
      go_wp2_with fail
      ((with_reducible refine (known_calls _ (HW.out.own HB4.out)).mono ?_); rintro _ w5 ⟨rfl, hb5⟩)
      rcases hg with rfl | rfl
      all_goals
        go_wp2_with fail
        go_ret
        exact ⟨by first | rfl | simp, sg.Below.next HB4.out hb5 (Nat.le_refl _)⟩
  · have e11 : (e == 11) = false := beq_eq_false_iff_ne.2 (fun h => h11 (.inl h))
    have e12 : (e == 12) = false := beq_eq_false_iff_ne.2 (fun h => h11 (.inr h))
    go_wp2_with fail
    ((with_reducible refine (known_calls _ (HW.out.own HB.out)).mono ?_); rintro _ w5 ⟨rfl, hb5⟩)
    go_wp2_with fail
    go_ret
    exact ⟨rfl, sg.Below.next HB.out hb5 (Nat.le_refl _)⟩

set_option maxRecDepth 100000 in
theorem lifted (os : Os) (started : os.Started) (H : Type) (enc : TypeId × Value → H) :
    ReturnsInHanded {} Tryd.checked os 4 .any (fun w args => (Rows.lexFirstSpec.pre enc Tryd.prog Tryd.f4 Rows.lexFirstRow.domain false w args ∧ laidMetH Tryd.prog lx.laid w) ∧ sizedMet enc Tryd.prog Tryd.f4 (OpenSpec.ofChange Rows.lexFirstSpec) false w args) (Rows.lexFirstSpec.post enc Tryd.prog Tryd.f4 false true false false) := by
  refine returnsInHanded_of_change_and (C := Tryd.checked) (X := fun w _ => laidMetH Tryd.prog lx.laid w) (fun _ _ _ hh h => h.of_heap hh) law.own started (by kernel_rfl) Tryd.func4
    (ChangeSpec.witness_shaped (enc := enc) (C := Tryd.checked) (os := os) (X := fun w _ => laidMetH Tryd.prog lx.laid w) false (World.laidAll Tryd.prog os lx.laid) #[.slice none 0 0] 8 (World.laidAll_os _ _ _) (World.shaped_of_ZipB (by kernel_rfl) (by kernel_rfl)) (by kernel_rfl) (by kernel_rfl) (by kernel_rfl) (lx.laid_met os _)) ?_
  intro W base args ds gs before hval0 hW _ hsize0 hL _
  have hsize : (DataW.weightsEach Tryd.prog (Tryd.f4.params.toList ++ _) (ds ++ gs)).all (· ≤ reachBytes) = true := hsize0
  have hOps := lx.ops_of_laid hL
  have hval : ∀ (j : Nat) t v, Tryd.f4.params[j]? = some t → args[j]? = some v → Value.okWide Tryd.prog W .any base t v := hval0
  have hW' := hW
  obtain ⟨p, q, hA0, hV, rfl, _, _⟩ := hW
  have hA : DataW.TrodAll enc Tryd.prog W 0 (fun _ => true) true Tryd.f4.params.toList args.toList ds p := hA0
  rw [Tryd.params4] at hA hval
  obtain ⟨v0, d0, rfl, rfl, h0⟩ := trodAll_one hA
  obtain ⟨rfl, rfl⟩ := trodVars_none hV
  obtain ⟨bs, hbs⟩ := law.open_bytes (hval 0 22 v0 rfl rfl) h0
  clear hL
  refine (walk v0 bs W hbs hOps).mono fun e W' ⟨he, hb⟩ => ⟨_, he, ?_⟩
  exact law.law_post rfl hW' rfl (by kernel_rfl) (by kernel_rfl) hb

/-- LexFirst, for every input. -/
theorem holds : Rows.LexFirstSaid :=
  OpenClaim.holds_of_wide 4 Tryd.f4 rfl rfl rfl rfl rfl rfl rfl ⟨rfl, rfl, rfl, rfl, rfl⟩ rfl rfl rfl rfl rfl (by kernel_rfl) Tryd.func4 (by kernel_rfl)
    (of_decide_eq_true (by kernel_rfl)) (by unfold Func.isWrapper; first | (rw [if_pos (by decide +kernel)]; kernel_rfl) | (rw [if_neg (by decide +kernel)]; exact ⟨rfl, rfl⟩))
    (fun os started H enc _ => lifted os started H enc)

/-- The tied card of LexFirst. -/
theorem card : Rows.LexFirstCardSaid :=
  Claim7.holds_tied_plain_at .later [] [.data, .data, .pinned] true Rows.lexFirstCard.stood.harness false
    holds (fun _ h => by cases h) (by kernel_rfl) (fun _ h => by cases h) lexFirst_row_tie rfl ⟨rfl, rfl⟩ (by kernel_rfl) rfl
    (fun f fn hf hfn => by
      obtain rfl : f = 4 := Option.some.inj ((show Tryd.prog.funcNamed "subeditor/subeditorlaw04.LexFirst" = some 4 by kernel_rfl).symm.trans hf) |>.symm
      obtain rfl : fn = Tryd.f4 := (Option.some.inj (Tryd.func4.symm.trans hfn)).symm
      exact ⟨by kernel_rfl, fun j t ht => by
        rw [Tryd.params4] at ht
        have hm := List.mem_toArray.1 (Array.mem_of_getElem? ht)
        have hall : (Tryd.f4.params.toList.all fun u => !Tryd.prog.wantsStandIn u) = true := by kernel_rfl
        rw [show Tryd.f4.params.toList = _ from congrArg Array.toList Tryd.params4] at hall
        exact (show Tryd.prog.wantsStandIn t = false by simpa using List.all_eq_true.1 hall t hm)⟩)
    (by kernel_rfl)
end Go.Proofs.YteemngcdpidnfaaDoor.lexFirst
