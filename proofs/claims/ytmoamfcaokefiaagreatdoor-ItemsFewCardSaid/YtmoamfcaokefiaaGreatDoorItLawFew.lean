/-
  subeditorlaw05.ItemsFew: for every input it returns true, and the arguments read as they did. No condition.
-/
import Derived.Test.YtmoamfcaokefiaaGreatDoorItAll
import Derived.Test.YtmoamfcaokefiaaGreatDoorLxSource
import Derived.Test.YtmoamfcaokefiaaGreatDoorCards
import Derived.Test.YtmoamfcaokefiaaGreatDoorTie
import Derived.SevenTiedAt
namespace Go.Proofs.YtmoamfcaokefiaaGreatDoor.itemsFew
open Go.RowKit Go.ChangeShapes Go.WideShapes Go.ChangeAt Go.ChangeMaps
open sg (OpsAt lst_len)
open lx
set_option linter.unusedVariables false

open it
theorem sum_as (l : List Lx.Tok) : sizeT (l.map asTk) = Lx.size l := by
  unfold sizeT Lx.size
  rw [List.map_map]
  congr 1
theorem tokens_sum (s : ByteArray) : Lx.size (tokensF s.data.toList (utf.checkF s)).1 ≤ s.size := by
  have h1 := Lx.size_le Lx.start s.data.toList
  rw [lst_len] at h1
  unfold tokensF
  split
  · exact Nat.zero_le _
  · split
    · exact Nat.zero_le _
    · split
      · exact h1
      · exact Nat.zero_le _
theorem err_part (v : Value) (s : ByteArray) (l : List Lx.Tok) (e at' : Int) (w : World) (hw : OpsAt w) (h0 : e ≠ 0)
    (hsc : Calls Tryz.prog 13 #[v] w fun e w' => e = .returned (.string s) ∧ Below w.heap.size w w')
    (hrt : ∀ w, Calls Tryz.prog 12 #[.string s] w fun e' w' => ∃ v, e' = .returned (.tuple #[v, .int .i64 e, .int .i64 at']) ∧ w'.ownsRow w.heap.size 24 2 v l.length (tokCells l) ∧ Below w.heap.size w w') :
    Calls Tryz.prog 7 #[v] w fun e W' => e = .returned (.bool true) ∧ Below w.heap.size w W' := by
  have HW := Lib.hid hw
  have e0 : (e == 0) = false := beq_eq_false_iff_ne.2 h0
  have e1 : (e != 0) = true := bne_iff_ne.2 h0
  clear hw
  go_enter Tryz.func7, Tryz.ntmps7
  go_wp2_with fail
  ((with_reducible refine hsc.mono ?_); rintro _ w2 ⟨rfl, hb2⟩)
  have HB2 := Lib.hid hb2
  clear hb2
  go_wp2_with fail
  ((with_reducible refine (hrt _).mono ?_); rintro _ w3 ⟨v3, rfl, ho3, hb3⟩)
  have HB3 := Lib.hid (sg.Below.next HB2.out hb3 (Nat.le_refl _))
  obtain ⟨a3, l3, c3, rfl⟩ := own_slice ho3
  clear hb3 ho3
  go_wp2_with fail
  ((with_reducible refine (it.known_calls _ (HW.out.own HB3.out)).mono ?_); rintro _ w4 ⟨rfl, hb4⟩)
  have HB4 := Lib.hid (sg.Below.next HB3.out hb4 (Nat.le_refl _))
  clear hb4
  go_wp2_with fail
  go_ret
  exact ⟨rfl, HB4.out⟩
/-- What a source's tokens are. -/
structure Told (s : ByteArray) (l : List Lx.Tok) : Prop where
  ok : tokensF s.data.toList (utf.checkF s) = (l, 0, 0)
  size : s.size ≤ 300
  len : l.length ≤ 300
  sum : sizeT (l.map asTk) ≤ 300
  kinds : ∀ t ∈ l, 1 ≤ t.1
def cntU (l : List Lx.Tok) (k : Nat) : Nat := ((l.take k).filter (fun t => decide (2 < t.1))).length
theorem cnt_yes (l : List Lx.Tok) (k : Nat) (t : Lx.Tok) (h : l[k]? = some t) (h2 : 2 < t.1) : cntU l (k + 1) = cntU l k + 1 := by
  unfold cntU
  rw [take_snoc l k t h, List.filter_append]
  simp [h2]
theorem cnt_no (l : List Lx.Tok) (k : Nat) (t : Lx.Tok) (h : l[k]? = some t) (h2 : ¬ 2 < t.1) : cntU l (k + 1) = cntU l k := by
  unfold cntU
  rw [take_snoc l k t h, List.filter_append]
  simp [h2]
theorem cnt_le (l : List Lx.Tok) (k : Nat) : cntU l k ≤ k := by
  unfold cntU
  have h1 := List.length_filter_le (fun t : Lx.Tok => decide (2 < t.1)) (l.take k)
  rw [List.length_take] at h1
  omega
theorem cnt_runs (l : List Lx.Tok) (h : ∀ t ∈ l, 1 ≤ t.1) : (runsU (l.map asTk)).length = cntU l l.length := by
  rw [runs_count]
  unfold cntU
  rw [List.take_length]
  induction l with
  | nil => rfl
  | cons t r ih =>
    have ih := ih (fun u hu => h u (List.mem_cons_of_mem _ hu))
    have h1 := h t (List.mem_cons_self ..)
    rw [List.map_cons, List.filter_cons, List.filter_cons]
    have e : (!idleB (asTk t).1) = decide (2 < t.1) := by
      unfold idleB asTk
      by_cases h2 : 2 < t.1
      · rw [decide_eq_true h2, beq_eq_false_iff_ne.2 (by simp; omega), beq_eq_false_iff_ne.2 (by simp; omega)]; rfl
      · rw [decide_eq_false h2]
        rcases (show t.1 = 1 ∨ t.1 = 2 by omega) with h3 | h3 <;> rw [h3] <;> rfl
    rw [e]
    split
    · rw [List.length_cons, List.length_cons, ih]
    · exact ih
theorem wk {k : Nat} (h : k ≤ 300) : wrap64 ((k : Int) + 1) = ((k + 1 : Nat) : Int) := by rw [IntWalk.wrap64_in]; rfl; omega
set_option maxRecDepth 100000 in
set_option maxHeartbeats 8000000 in
theorem ok_part2 (v : Value) (s : ByteArray) (l : List Lx.Tok) (w : World) (hw : OpsAt w)
    (hsc : Calls Tryz.prog 13 #[v] w fun e w' => e = .returned (.string s) ∧ Below w.heap.size w w')
    (hrt : ∀ w, Calls Tryz.prog 12 #[.string s] w fun e' w' => ∃ v, e' = .returned (.tuple #[v, .int .i64 0, .int .i64 0]) ∧ w'.ownsRow w.heap.size 24 2 v l.length (tokCells l) ∧ Below w.heap.size w w')
    (ht : Told s l) :
    Calls Tryz.prog 7 #[v] w fun e W' => e = .returned (.bool true) ∧ Below w.heap.size w W' := by
  have HW := Lib.hid hw; have HT := Lib.hid ht
  have hrc := cnt_runs l ht.kinds
  have HRC := Lib.hid hrc
  clear hw ht hrc
  go_enter Tryz.func7, Tryz.ntmps7
  go_wp2_with fail
  ((with_reducible refine hsc.mono ?_); rintro _ w2 ⟨rfl, hb2⟩)
  have HB2 := Lib.hid hb2
  clear hb2
  go_wp2_with fail
  ((with_reducible refine (hrt _).mono ?_); rintro _ w3 ⟨v3, rfl, ho3, hb3⟩)
  have HB3 := Lib.hid (sg.Below.next HB2.out hb3 (Nat.le_refl _))
  have htk := own_tks ho3 (by have := HT.out.len; unfold maxLen; omega)
  obtain ⟨a3, c3, rfl, hc3⟩ := own_len ho3
  have HTK := Lib.hid htk; have HO3 := Lib.hid ho3; have HC3 := Lib.hid hc3
  clear hb3 ho3 htk hc3
  go_wp2_with fail
  go_loopw [6, 7] (fun n i wr => ∃ k : Nat, k ≤ l.length ∧ i = .int .i64 (k : Int) ∧ n = .int .i64 (cntU l k : Int) ∧ Below w3.heap.size w3 wr) (fun n i wr => l.length - (intOf i).toNat)
  case atStart => exact ⟨0, Nat.zero_le _, rfl, rfl, Below.refl _ _⟩
  case round =>
    obtain ⟨k, hk, rfl, rfl, hb⟩ := hrel
    by_cases hlt : k < l.length
    · obtain ⟨t, ht⟩ : ∃ t, l[k]? = some t := ⟨_, List.getElem?_eq_getElem hlt⟩
      obtain ⟨ao, cap, hv, hm, hcc⟩ := HTK.out
      obtain ⟨g, off, e, hg, c0, c1⟩ := hcc k (asTk t) (by rw [List.getElem?_map, ht]; rfl)
      have hv2 : a3 = some ⟨g, off, none⟩ := by rw [← e]; exact (Value.slice.inj hv).1
      subst hv2
      have d0 : wr.cell? ⟨g, off + k * 2, none⟩ = some (.int .i64 t.1) := (hb.cell (p := ⟨g, off + k * 2, none⟩) hg).trans c0
      have hlt1 : (k : Int) < (l.length : Int) := by omega
      have hcl := cnt_le l k
      have hl3 := HT.out.len
      have hw1 := wk (k := cntU l k) (by omega)
      have hw2 := wk (k := k) (by omega)
      have HB := Lib.hid hb
      by_cases h2 : 2 < t.1
      · have hcy := Lib.hid (cnt_yes l k t ht h2)
        have t2 : decide (2 < t.1) = true := decide_eq_true h2
        have HW1 := Lib.hid hw1; have HW2 := Lib.hid hw2
        clear hcc hv c0 c1 hb ht h2 e hw1 hw2 hcl hl3 hg
        go_wp2_with fail
        exact ⟨⟨k + 1, by omega, by rw [HW2.out], by rw [HW1.out, hcy.out], HB.out⟩, by rw [HW2.out]; simp [intOf]; omega⟩
      · have hcy := Lib.hid (cnt_no l k t ht h2)
        have t2 : decide (2 < t.1) = false := decide_eq_false h2
        have HW1 := Lib.hid hw1; have HW2 := Lib.hid hw2
        clear hcc hv c0 c1 hb ht h2 e hw1 hw2 hcl hl3 hg
        go_wp2_with fail
        exact ⟨⟨k + 1, by omega, by rw [HW2.out], by rw [hcy.out], HB.out⟩, by rw [HW2.out]; simp [intOf]; omega⟩
    · obtain rfl : k = l.length := by omega
      have hge : decide ((l.length : Int) < (l.length : Int)) = false := by simp
      have HB4 := Lib.hid (sg.Below.next HB3.out hb (Nat.le_refl _))
      have htk := ((HTK.out.below hb (Nat.le_refl _)).mono hb.size)
      have hit := items_calls a3 c3 (l.map asTk) wr (by rw [List.length_map]; exact htk) (by rw [List.length_map]; exact HC3.out) (by have := HT.out.sum; omega) (by have := HT.out.len; rw [List.length_map]; omega)
      rw [List.length_map] at hit
      have HTK4 := Lib.hid htk
      clear hb htk hlt
      go_wp2_with fail
      ((with_reducible refine hit.mono ?_); rintro _ w5 ⟨nv, ov, nvs, rfl, hon, hoo, hNN, hb5⟩)
      have HB5 := Lib.hid (sg.Below.next HB4.out hb5 (Nat.le_refl _))
      have hno := notes_calls (.slice a3 l.length c3) (l.map asTk)
      obtain ⟨na, nc, rfl, _⟩ := own_len hon
      obtain ⟨oa, oc, rfl, _⟩ := own_len hoo
      rw [HRC.out]
      have HTK5 := HTK4
      have hN0 : cntU l l.length = 0 → (notesU ((l.map asTk).take (aheadU (l.map asTk)))).length = (notesU (l.map asTk)).length := fun h => by rw [none_counts _ (by rw [HRC.out]; exact h)]
      have HN0 := Lib.hid hN0
      clear hon hoo hNN hN0 hit
      go_wp2_with fail
      ((with_reducible refine (it.known_calls _ (HW.out.own HB5.out)).mono ?_); rintro _ w6 ⟨rfl, hb6⟩)
      have HB6 := Lib.hid (sg.Below.next HB5.out hb6 (Nat.le_refl _))
      have htk5 := HTK5.out.below hb5 (Nat.le_refl _)
      have hno6 := hno w6 _ (htk5.below hb6 hb5.size) (by have := HT.out.sum; omega) (by have := HT.out.len; rw [List.length_map]; omega)
      clear hno htk5 hb5
      by_cases hz : cntU l l.length = 0
      · have hle := HN0.out hz
        obtain ⟨q, hq⟩ : ∃ q, (notesU (l.map asTk)).length = q := ⟨_, rfl⟩
        rw [hq] at hle hno6
        have t1 : decide ((0 : Int) < (((0 : Nat)) : Int)) = false := by decide
        rw [hle, hz]
        clear hb6 hle hq hz
        go_wp2_with fail
        ((with_reducible refine hno6.mono ?_); rintro _ w7 ⟨nu, rfl, hou, hb7⟩)
        have HB7 := Lib.hid (sg.Below.next HB6.out hb7 (Nat.le_refl _))
        obtain ⟨ua, uc, rfl, _⟩ := own_len hou
        clear hou hb7
        go_wp2_with fail
        go_ret
        exact ⟨rfl, HB7.out⟩
      · have t1 : decide ((0 : Int) < (cntU l l.length : Int)) = true := decide_eq_true (by omega)
        clear hb6
        go_wp2_with fail
        go_ret
        exact ⟨rfl, HB6.out⟩

theorem walk (v : Value) (bs : List Int) (w : World) (hv : law.BytesAt w v bs) (hw : OpsAt w) :
    Calls Tryz.prog 7 #[v] w fun e W' => e = .returned (.bool true) ∧ Below w.heap.size w W' := by
  obtain ⟨s, hs⟩ : ∃ s, srcF bs = s := ⟨_, rfl⟩
  have hss := srcF_size bs
  have hsc := source_calls v bs w hv
  rw [hs] at hss hsc
  clear hs hv
  obtain ⟨l, e, at', he⟩ : ∃ l e at', tokensF s.data.toList (utf.checkF s) = (l, e, at') := ⟨_, _, _, rfl⟩
  have hrt := fun w => rtokens_as s (by omega) w l e at' he
  by_cases h0 : e = 0
  · subst h0
    obtain ⟨hok, hlx, rfl⟩ := told_ok he
    have hln := len_tokens s (by omega)
    rw [he] at hln
    simp only at hln
    have hsz := tokens_sum s
    rw [he] at hsz
    simp only at hsz
    have htl := tok_len s he
    exact ok_part2 v s l w hw hsc hrt ⟨he, by omega, by omega, by rw [sum_as]; omega, wf_kinds (Lx.wf_of_lex hlx)⟩
  · exact err_part v s l e at' w hw h0 hsc hrt

set_option maxRecDepth 100000 in
theorem lifted (os : Os) (started : os.Started) (H : Type) (enc : TypeId × Value → H) :
    ReturnsInHanded {} Tryz.checked os 7 .any (fun w args => (Rows.itemsFewSpec.pre enc Tryz.prog Tryz.f7 Rows.itemsFewRow.domain false w args ∧ laidMetH Tryz.prog lx.laid w) ∧ sizedMet enc Tryz.prog Tryz.f7 (OpenSpec.ofChange Rows.itemsFewSpec) false w args) (Rows.itemsFewSpec.post enc Tryz.prog Tryz.f7 false true false false) := by
  refine returnsInHanded_of_change_and (C := Tryz.checked) (X := fun w _ => laidMetH Tryz.prog lx.laid w) (fun _ _ _ hh h => h.of_heap hh) law.own started (by kernel_rfl) Tryz.func7
    (ChangeSpec.witness_shaped (enc := enc) (C := Tryz.checked) (os := os) (X := fun w _ => laidMetH Tryz.prog lx.laid w) false (World.laidAll Tryz.prog os lx.laid) #[.slice none 0 0] 8 (World.laidAll_os _ _ _) (World.shaped_of_ZipB (by kernel_rfl) (by kernel_rfl)) (by kernel_rfl) (by kernel_rfl) (by kernel_rfl) (lx.laid_met os _)) ?_
  intro W base args ds gs before hval0 hW _ hsize0 hL _
  have hsize : (DataW.weightsEach Tryz.prog (Tryz.f7.params.toList ++ _) (ds ++ gs)).all (· ≤ reachBytes) = true := hsize0
  have hOps := lx.ops_of_laid hL
  have hval : ∀ (j : Nat) t v, Tryz.f7.params[j]? = some t → args[j]? = some v → Value.okWide Tryz.prog W .any base t v := hval0
  have hW' := hW
  obtain ⟨p, q, hA0, hV, rfl, _, _⟩ := hW
  have hA : DataW.TrodAll enc Tryz.prog W 0 (fun _ => true) true Tryz.f7.params.toList args.toList ds p := hA0
  rw [Tryz.params7] at hA hval
  obtain ⟨v0, d0, rfl, rfl, h0⟩ := trodAll_one hA
  obtain ⟨rfl, rfl⟩ := trodVars_none hV
  obtain ⟨bs, hbs⟩ := law.open_bytes (hval 0 25 v0 rfl rfl) h0
  clear hL
  refine (walk v0 bs W hbs hOps).mono fun e W' ⟨he, hb⟩ => ⟨_, he, ?_⟩
  exact law.law_post rfl hW' rfl (by kernel_rfl) (by kernel_rfl) hb

/-- ItemsFew, for every input. -/
theorem holds : Rows.ItemsFewSaid :=
  OpenClaim.holds_of_wide 7 Tryz.f7 rfl rfl rfl rfl rfl rfl rfl ⟨rfl, rfl, rfl, rfl, rfl⟩ rfl rfl rfl rfl rfl (by kernel_rfl) Tryz.func7 (by kernel_rfl)
    (of_decide_eq_true (by kernel_rfl)) (by unfold Func.isWrapper; first | (rw [if_pos (by decide +kernel)]; kernel_rfl) | (rw [if_neg (by decide +kernel)]; exact ⟨rfl, rfl⟩))
    (fun os started H enc _ => lifted os started H enc)

/-- The tied card of ItemsFew. -/
theorem card : Rows.ItemsFewCardSaid :=
  Claim7.holds_tied_plain_at .later [] [.data, .data, .pinned] true Rows.itemsFewCard.stood.harness false
    holds (fun _ h => by cases h) (by kernel_rfl) (fun _ h => by cases h) itemsFew_row_tie rfl ⟨rfl, rfl⟩ (by kernel_rfl) rfl
    (fun f fn hf hfn => by
      obtain rfl : f = 7 := Option.some.inj ((show Tryz.prog.funcNamed "subeditor/subeditorlaw05.ItemsFew" = some 7 by kernel_rfl).symm.trans hf) |>.symm
      obtain rfl : fn = Tryz.f7 := (Option.some.inj (Tryz.func7.symm.trans hfn)).symm
      exact ⟨by kernel_rfl, fun j t ht => by
        rw [Tryz.params7] at ht
        have hm := List.mem_toArray.1 (Array.mem_of_getElem? ht)
        have hall : (Tryz.f7.params.toList.all fun u => !Tryz.prog.wantsStandIn u) = true := by kernel_rfl
        rw [show Tryz.f7.params.toList = _ from congrArg Array.toList Tryz.params7] at hall
        exact (show Tryz.prog.wantsStandIn t = false by simpa using List.all_eq_true.1 hall t hm)⟩)
    (by kernel_rfl)
end Go.Proofs.YtmoamfcaokefiaaGreatDoor.itemsFew
