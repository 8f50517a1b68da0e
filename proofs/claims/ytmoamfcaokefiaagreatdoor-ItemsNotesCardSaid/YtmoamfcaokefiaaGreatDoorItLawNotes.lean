/-
  subeditorlaw05.ItemsNotes: for every input it returns true, and the arguments read as they did. No condition.
-/
import Derived.Test.YtmoamfcaokefiaaGreatDoorItAll
import Derived.Test.YtmoamfcaokefiaaGreatDoorLxSource
import Derived.Test.YtmoamfcaokefiaaGreatDoorItSame
import Derived.Test.YtmoamfcaokefiaaGreatDoorCards
import Derived.Test.YtmoamfcaokefiaaGreatDoorTie
import Derived.SevenTiedAt
namespace Go.Proofs.YtmoamfcaokefiaaGreatDoor.itemsNotes
open Go.RowKit Go.ChangeShapes Go.WideShapes Go.ChangeAt Go.ChangeMaps
open sg (OpsAt lst_len)
open lx
set_option linter.unusedVariables false

open it
theorem sum_as (l : List Lx.Tok) : sizeT (l.map asTk) = Lx.size l := by
  unfold sizeT Lx.size
  rw [List.map_map]
  congr 1
theorem tokens_sum (s : ByteArray) : Lx.size (tokensF s.data.toList (utf.checkF s)).1 ≤ s.size := by
  have h1 := Lx.size_le Lx.start s.data.toList
  rw [lst_len] at h1
  unfold tokensF
  split
  · exact Nat.zero_le _
  · split
    · exact Nat.zero_le _
    · split
      · exact h1
      · exact Nat.zero_le _
theorem err_part (v : Value) (s : ByteArray) (l : List Lx.Tok) (e at' : Int) (w : World) (hw : OpsAt w) (h0 : e ≠ 0)
    (hsc : Calls Tryz.prog 13 #[v] w fun e w' => e = .returned (.string s) ∧ Below w.heap.size w w')
    (hrt : ∀ w, Calls Tryz.prog 12 #[.string s] w fun e' w' => ∃ v, e' = .returned (.tuple #[v, .int .i64 e, .int .i64 at']) ∧ w'.ownsRow w.heap.size 24 2 v l.length (tokCells l) ∧ Below w.heap.size w w') :
    Calls Tryz.prog 5 #[v] w fun e W' => e = .returned (.bool true) ∧ Below w.heap.size w W' := by
  have HW := Lib.hid hw
  have e0 : (e == 0) = false := beq_eq_false_iff_ne.2 h0
  have e1 : (e != 0) = true := bne_iff_ne.2 h0
  clear hw
  go_enter Tryz.func5, Tryz.ntmps5
  go_wp2_with fail
  ((with_reducible refine hsc.mono ?_); rintro _ w2 ⟨rfl, hb2⟩)
  have HB2 := Lib.hid hb2
  clear hb2
  go_wp2_with fail
  ((with_reducible refine (hrt _).mono ?_); rintro _ w3 ⟨v3, rfl, ho3, hb3⟩)
  have HB3 := Lib.hid (sg.Below.next HB2.out hb3 (Nat.le_refl _))
  obtain ⟨a3, l3, c3, rfl⟩ := own_slice ho3
  clear hb3 ho3
  go_wp2_with fail
  ((with_reducible refine (it.known_calls _ (HW.out.own HB3.out)).mono ?_); rintro _ w4 ⟨rfl, hb4⟩)
  have HB4 := Lib.hid (sg.Below.next HB3.out hb4 (Nat.le_refl _))
  clear hb4
  go_wp2_with fail
  go_ret
  exact ⟨rfl, HB4.out⟩
/-- What a source's tokens are. -/
structure Told (s : ByteArray) (l : List Lx.Tok) : Prop where
  ok : tokensF s.data.toList (utf.checkF s) = (l, 0, 0)
  size : s.size ≤ 300
  len : l.length ≤ 300
  sum : sizeT (l.map asTk) ≤ 300
  kinds : ∀ t ∈ l, 1 ≤ t.1
/-- The notes up to an item. -/
def NK (ts : List Tk) (k : Nat) : List ByteArray := notesU (ts.take (aheadU ts) ++ ((runsU ts).take k).flatMap (·.l))
theorem nk_zero (ts : List Tk) : NK ts 0 = notesU (ts.take (aheadU ts)) := by unfold NK; rw [List.take_zero, List.flatMap_nil, List.append_nil]
theorem nk_succ (ts : List Tk) (k : Nat) (x : Run) (h : (runsU ts)[k]? = some x) : NK ts (k + 1) = NK ts k ++ notesU x.l := by
  unfold NK
  rw [← notesU_app]
  congr 1
  have : (runsU ts).take (k + 1) = (runsU ts).take k ++ [x] := by rw [List.take_add_one, h]; rfl
  rw [this, List.flatMap_append, List.append_assoc]
  simp
theorem nk_all (ts : List Tk) : NK ts (runsU ts).length = notesU ts := by
  unfold NK
  rw [List.take_length, flat_of]
theorem nk_len (ts : List Tk) (k : Nat) : (NK ts k).length ≤ ts.length := by
  unfold NK
  refine Nat.le_trans (notesU_len _) ?_
  have h1 := congrArg List.length (flat_of ts)
  have h2 : ((runsU ts).flatMap (·.l)).length = (((runsU ts).take k).flatMap (·.l)).length + (((runsU ts).drop k).flatMap (·.l)).length := by
    rw [← List.length_append, ← List.flatMap_append, List.take_append_drop]
  rw [List.length_append] at h1 ⊢
  omega
theorem wk {k : Nat} (h : k ≤ 300) : wrap64 ((k : Int) + 1) = ((k + 1 : Nat) : Int) := by rw [IntWalk.wrap64_in]; rfl; omega
theorem wn {a b : Nat} (h : a + b ≤ 300) : wrap64 ((a : Int) + (b : Int)) = (a : Int) + (b : Int) := by rw [IntWalk.wrap64_in]; omega
theorem meas {k n : Nat} (h : k + 1 ≤ n) : n - (intOf (.int .i64 ((k + 1 : Nat) : Int))).toNat < n - (intOf (.int .i64 (k : Int))).toNat := by
  show n - (((k + 1 : Nat) : Int)).toNat < n - ((k : Nat) : Int).toNat
  omega
set_option maxRecDepth 100000 in
set_option maxHeartbeats 8000000 in
theorem ok_part2 (v : Value) (s : ByteArray) (l : List Lx.Tok) (w : World) (hw : OpsAt w)
    (hsc : Calls Tryz.prog 13 #[v] w fun e w' => e = .returned (.string s) ∧ Below w.heap.size w w')
    (hrt : ∀ w, Calls Tryz.prog 12 #[.string s] w fun e' w' => ∃ v, e' = .returned (.tuple #[v, .int .i64 0, .int .i64 0]) ∧ w'.ownsRow w.heap.size 24 2 v l.length (tokCells l) ∧ Below w.heap.size w w')
    (ht : Told s l) :
    Calls Tryz.prog 5 #[v] w fun e W' => e = .returned (.bool true) ∧ Below w.heap.size w W' := by
  have hjn : joinT (l.map asTk) = s.data.toList := by
    obtain ⟨_, h2, _⟩ := told_ok ht.ok
    have := lex_whole Lx.start s.data.toList (by rw [h2])
    rw [h2] at this
    rw [whole_T]
    exact this
  have HJ := Lib.hid hjn
  have HW := Lib.hid hw; have HT := Lib.hid ht
  obtain ⟨i0, hi, hz0, hz1, hz2⟩ := info_parts infoStr
  clear hw ht hjn
  go_enter Tryz.func5, Tryz.ntmps5
  go_wp2_with fail
  ((with_reducible refine hsc.mono ?_); rintro _ w2 ⟨rfl, hb2⟩)
  have HB2 := Lib.hid hb2
  clear hb2
  go_wp2_with fail
  ((with_reducible refine (hrt _).mono ?_); rintro _ w3 ⟨v3, rfl, ho3, hb3⟩)
  have HB3 := Lib.hid (sg.Below.next HB2.out hb3 (Nat.le_refl _))
  have htk := own_tks ho3 (by have := HT.out.len; unfold maxLen; omega)
  obtain ⟨a3, c3, rfl, hc3⟩ := own_len ho3
  have HTK := Lib.hid htk
  have hit := items_calls a3 c3 (l.map asTk) w3 (by rw [List.length_map]; exact htk) (by rw [List.length_map]; exact hc3) (by have := HT.out.sum; omega) (by have := HT.out.len; rw [List.length_map]; omega)
  rw [List.length_map] at hit
  have hll : (l.map asTk).length ≤ 300 := by rw [List.length_map]; exact HT.out.len
  obtain ⟨ts, hts⟩ : ∃ ts, l.map asTk = ts := ⟨_, rfl⟩
  rw [hts] at hit hll
  have HTS := Lib.hid hts
  have hrl := runsU_len ts
  clear hb3 ho3 htk hc3 hts
  go_wp2_with fail
  ((with_reducible refine hit.mono ?_); rintro _ w5 ⟨nv, ov, nvs, rfl, hon, hoo, hNN, hb5⟩)
  have HB5 := Lib.hid (sg.Below.next HB3.out hb5 (Nat.le_refl _))
  have htk5 := HTK.out.below hb5 (Nat.le_refl _)
  rw [HTS.out] at htk5
  have HTK5 := Lib.hid (htk5.mono hb5.size)
  obtain ⟨oa, oc, rfl, _⟩ := own_len hoo
  have hn0 := nk_zero ts
  have hnl := nk_len ts 0
  rw [← hn0] at hon
  have hnv := own_slice hon
  obtain ⟨na, nl, nc, rfl⟩ := hnv
  have HOO := Lib.hid hoo; have HNN := Lib.hid hNN; have HRL := Lib.hid hrl; have HLL := Lib.hid hll
  clear hoo hNN hb5 hit htk5 hn0 hrl hll
  go_wp2_with (at_builtin; refine wpList_append_rows _ rfl _ _ 34 rfl w5.heap.size 9 i0 (.string ⟨#[]⟩) 1 16 Tryz.underlying34 hi hz0 hz1 hz2 rfl (by decide) _ 0 [] rfl (World.ownsRow_nil _ _ _ _) _ _ _ _ rfl hon (strs_one _) (by have := HLL.out; unfold maxLen; omega) (by have := HLL.out; omega) (Nat.le_refl _) ?_; intro v6 w6 hown6 hb6; rw [List.nil_append, Nat.zero_add] at hown6; obtain ⟨a6, l6, c6, rfl⟩ := own_slice hown6)
  have HO6 := Lib.hid hown6; have HB6 := Lib.hid hb6
  clear hown6 hb6 hon
  go_loopw [9, 10] (fun al i wr => ∃ k : Nat, k ≤ (runsU ts).length ∧ i = .int .i64 (k : Int) ∧ wr.ownsRow w5.heap.size 9 1 al (NK ts k).length (strs (NK ts k)) ∧ Below w5.heap.size w5 wr) (fun al i wr => (runsU ts).length - (intOf i).toNat)
  case atStart => exact ⟨0, Nat.zero_le _, rfl, HO6.out, HB6.out⟩
  case round =>
    obtain ⟨k, hk, rfl, ho, hb⟩ := hrel
    by_cases hlt : k < (runsU ts).length
    · obtain ⟨x, hx⟩ : ∃ x, (runsU ts)[k]? = some x := ⟨_, List.getElem?_eq_getElem hlt⟩
      obtain ⟨g, nv, hg, hgl, hnv, c0, c1, c2, c3', hon⟩ := item_get (n := 0) HOO.out HNN.out k x hx
      subst hg
      obtain ⟨t1, t2⟩ := text_at s ts (by rw [← HTS.out]; exact HJ.out) k x hx
      obtain ⟨T, hT⟩ : ∃ T, (x.l.headD (0, ⟨#[]⟩)).2 = T := ⟨_, rfl⟩
      rw [hT] at c1 t1 t2
      obtain ⟨A, hA⟩ : ∃ A, x.at' = A := ⟨_, rfl⟩
      rw [hA] at c2 t1 t2
      have d1 : wr.cell? ⟨g, k * 4 + 1, none⟩ = some (.string T) := (hb.cell (p := ⟨g, _, none⟩) hgl).trans c1
      have d2 : wr.cell? ⟨g, k * 4 + 2, none⟩ = some (.int .i64 (A : Int)) := (hb.cell (p := ⟨g, _, none⟩) hgl).trans c2
      have d3 : wr.cell? ⟨g, k * 4 + 3, none⟩ = some nv := (hb.cell (p := ⟨g, _, none⟩) hgl).trans c3'
      have hon2 := ownsRow_below hon hb
      obtain ⟨pa, pl, pc, rfl⟩ := own_slice hon2
      obtain ⟨qa, ql, qc, rfl⟩ := own_slice ho
      have hlt1 : (k : Int) < ((runsU ts).length : Int) := by omega
      have hk1l : k + 1 ≤ (runsU ts).length := hlt
      have hss := HT.out.size
      have hk3 : k ≤ 300 := by have := HRL.out; have := HLL.out; omega
      have HX := Lib.hid hx; have HB := Lib.hid hb; have HO := Lib.hid ho; have HON := Lib.hid hon2; have HK := Lib.hid hk3
      have u1 : decide ((A : Int) < 0) = false := decide_eq_false (by omega)
      have u2 : decide ((s.size : Int) < ((A : Int) + (T.size : Int))) = false := decide_eq_false (by omega)
      have u3 : ((s.extract A (A + T.size)).toList == T.toList) = true := by rw [t2]; exact beq_self_eq_true _
      have g0 : (0 : Int) ≤ (A : Int) := by omega
      have g1 : (A : Int) ≤ ((A : Int) + (T.size : Int)) := by omega
      have g2 : ((A : Int) + (T.size : Int)) ≤ (s.size : Int) := by omega
      have w1 := wn (a := A) (b := T.size) (by omega)
      clear hb ho hon2 hon c0 c1 c2 c3' hnv t1 t2 hss hk3 hgl hx hlt hT hA
      have w1' := (IntWalk.i64_left ((A : Int) + (T.size : Int))).trans w1
      go_wp2_with fail
      go_quiet (fail)
      rename_i nq
      obtain ⟨wb, hwb⟩ : ∃ wb, wr.drewN nq = wb := ⟨_, rfl⟩
      rw [hwb]
      have hbb : Below wr.heap.size wr wb := by rw [← hwb]; exact ⟨rfl, rfl, rfl, Nat.le_refl _, fun _ _ => rfl⟩
      have e3 : wb.cell? ⟨g, k * 4 + 3, none⟩ = some (.slice pa pl pc) := (hbb.cell (p := ⟨g, k * 4 + 3, none⟩) (World.block_lt_of_cell? wr _ d3)).trans d3
      have hob := ownsRow_below HO.out hbb
      have honb := ownsRow_below HON.out hbb
      have hbs : w5.heap.size ≤ wb.heap.size := Nat.le_trans HB.out.size hbb.size
      have HBB := Lib.hid (sg.Below.next HB.out hbb (Nat.le_refl _))
      have hk1 := nk_len ts k
      have hk2 := nk_len ts (k + 1)
      have hks := nk_succ ts k x HX.out
      rw [hks, List.length_append] at hk2
      have HKS := Lib.hid hks
      have hl5 := HLL.out
      clear d1 d2 d3 u1 u2 u3 g0 g1 g2 w1 w1' hbb hwb hks
      go_wp2_with (at_builtin; refine wpList_append_rows _ rfl _ _ 34 rfl w5.heap.size 9 i0 (.string ⟨#[]⟩) 1 16 Tryz.underlying34 hi hz0 hz1 hz2 rfl (by decide) _ _ _ rfl hob _ _ _ _ rfl honb (strs_one _) (by unfold maxLen; omega) (by omega) hbs ?_; intro v7 w7 hown7 hb7; obtain ⟨a7, l7, c7, rfl⟩ := own_slice hown7)
      refine ⟨⟨k + 1, hk1l, by rw [wk HK.out], ?_, HBB.out.trans hb7⟩, by rw [wk HK.out]; exact meas hk1l⟩
      rw [HKS.out, List.length_append, show it.strs (NK ts k ++ notesU x.l) = it.strs (NK ts k) ++ it.strs (notesU x.l) from by unfold it.strs; rw [List.map_append]]
      exact hown7
    · obtain rfl : k = (runsU ts).length := by omega
      have hge : decide (((runsU ts).length : Int) < ((runsU ts).length : Int)) = false := by simp
      rw [nk_all] at ho
      have HO := Lib.hid ho
      obtain ⟨qa, ql, qc, rfl⟩ := own_slice ho
      have HB6 := Lib.hid (sg.Below.next HB5.out hb (Nat.le_refl _))
      have htk6 := HTK5.out.below hb (Nat.le_refl _)
      have HTK6 := Lib.hid (htk6.mono hb.size)
      clear ho htk6 hlt
      go_wp2_with fail
      ((with_reducible refine (it.known_calls _ (HW.out.own HB6.out)).mono ?_); rintro _ w7 ⟨rfl, hb7⟩)
      have HB7 := Lib.hid (sg.Below.next HB6.out hb7 (Nat.le_refl _))
      have hno7 := notes_calls _ ts w7 _ (HTK6.out.below hb7 (Nat.le_refl _)) (by have := HT.out.sum; rw [HTS.out] at this; omega) (by have := HLL.out; omega)
      have HO7 := Lib.hid (ownsRow_below HO.out hb7)
      clear hb7
      go_wp2_with fail
      ((with_reducible refine hno7.mono ?_); rintro _ w8 ⟨nu, rfl, hou, hb8⟩)
      have HB8 := Lib.hid (sg.Below.next HB7.out hb8 (Nat.le_refl _))
      have hsm := same1_calls _ _ (notesU ts) w8 w8.heap.size (own_strs (ownsRow_below HO7.out hb8)) (own_strs hou)
      obtain ⟨ua, ul, uc, rfl⟩ := own_slice hou
      clear hou hb8
      go_wp2_with fail
      ((with_reducible refine hsm.mono ?_); rintro _ w9 ⟨rfl, hb9⟩)
      have HB9 := Lib.hid (sg.Below.next HB8.out hb9 (Nat.le_refl _))
      clear hb9
      go_wp2_with fail
      go_ret
      exact ⟨rfl, HB9.out⟩

theorem walk (v : Value) (bs : List Int) (w : World) (hv : law.BytesAt w v bs) (hw : OpsAt w) :
    Calls Tryz.prog 5 #[v] w fun e W' => e = .returned (.bool true) ∧ Below w.heap.size w W' := by
  obtain ⟨s, hs⟩ : ∃ s, srcF bs = s := ⟨_, rfl⟩
  have hss := srcF_size bs
  have hsc := source_calls v bs w hv
  rw [hs] at hss hsc
  clear hs hv
  obtain ⟨l, e, at', he⟩ : ∃ l e at', tokensF s.data.toList (utf.checkF s) = (l, e, at') := ⟨_, _, _, rfl⟩
  have hrt := fun w => rtokens_as s (by omega) w l e at' he
  by_cases h0 : e = 0
  · subst h0
    obtain ⟨hok, hlx, rfl⟩ := told_ok he
    have hln := len_tokens s (by omega)
    rw [he] at hln
    simp only at hln
    have hsz := tokens_sum s
    rw [he] at hsz
    simp only at hsz
    have htl := tok_len s he
    exact ok_part2 v s l w hw hsc hrt ⟨he, by omega, by omega, by rw [sum_as]; omega, wf_kinds (Lx.wf_of_lex hlx)⟩
  · exact err_part v s l e at' w hw h0 hsc hrt

set_option maxRecDepth 100000 in
theorem lifted (os : Os) (started : os.Started) (H : Type) (enc : TypeId × Value → H) :
    ReturnsInHanded {} Tryz.checked os 5 .any (fun w args => (Rows.itemsNotesSpec.pre enc Tryz.prog Tryz.f5 Rows.itemsNotesRow.domain false w args ∧ laidMetH Tryz.prog lx.laid w) ∧ sizedMet enc Tryz.prog Tryz.f5 (OpenSpec.ofChange Rows.itemsNotesSpec) false w args) (Rows.itemsNotesSpec.post enc Tryz.prog Tryz.f5 false true false false) := by
  refine returnsInHanded_of_change_and (C := Tryz.checked) (X := fun w _ => laidMetH Tryz.prog lx.laid w) (fun _ _ _ hh h => h.of_heap hh) law.own started (by kernel_rfl) Tryz.func5
    (ChangeSpec.witness_shaped (enc := enc) (C := Tryz.checked) (os := os) (X := fun w _ => laidMetH Tryz.prog lx.laid w) false (World.laidAll Tryz.prog os lx.laid) #[.slice none 0 0] 8 (World.laidAll_os _ _ _) (World.shaped_of_ZipB (by kernel_rfl) (by kernel_rfl)) (by kernel_rfl) (by kernel_rfl) (by kernel_rfl) (lx.laid_met os _)) ?_
  intro W base args ds gs before hval0 hW _ hsize0 hL _
  have hsize : (DataW.weightsEach Tryz.prog (Tryz.f5.params.toList ++ _) (ds ++ gs)).all (· ≤ reachBytes) = true := hsize0
  have hOps := lx.ops_of_laid hL
  have hval : ∀ (j : Nat) t v, Tryz.f5.params[j]? = some t → args[j]? = some v → Value.okWide Tryz.prog W .any base t v := hval0
  have hW' := hW
  obtain ⟨p, q, hA0, hV, rfl, _, _⟩ := hW
  have hA : DataW.TrodAll enc Tryz.prog W 0 (fun _ => true) true Tryz.f5.params.toList args.toList ds p := hA0
  rw [Tryz.params5] at hA hval
  obtain ⟨v0, d0, rfl, rfl, h0⟩ := trodAll_one hA
  obtain ⟨rfl, rfl⟩ := trodVars_none hV
  obtain ⟨bs, hbs⟩ := law.open_bytes (hval 0 25 v0 rfl rfl) h0
  clear hL
  refine (walk v0 bs W hbs hOps).mono fun e W' ⟨he, hb⟩ => ⟨_, he, ?_⟩
  exact law.law_post rfl hW' rfl (by kernel_rfl) (by kernel_rfl) hb

/-- ItemsNotes, for every input. -/
theorem holds : Rows.ItemsNotesSaid :=
  OpenClaim.holds_of_wide 5 Tryz.f5 rfl rfl rfl rfl rfl rfl rfl ⟨rfl, rfl, rfl, rfl, rfl⟩ rfl rfl rfl rfl rfl (by kernel_rfl) Tryz.func5 (by kernel_rfl)
    (of_decide_eq_true (by kernel_rfl)) (by unfold Func.isWrapper; first | (rw [if_pos (by decide +kernel)]; kernel_rfl) | (rw [if_neg (by decide +kernel)]; exact ⟨rfl, rfl⟩))
    (fun os started H enc _ => lifted os started H enc)

/-- The tied card of ItemsNotes. -/
theorem card : Rows.ItemsNotesCardSaid :=
  Claim7.holds_tied_plain_at .later [] [.data, .data, .pinned] true Rows.itemsNotesCard.stood.harness false
    holds (fun _ h => by cases h) (by kernel_rfl) (fun _ h => by cases h) itemsNotes_row_tie rfl ⟨rfl, rfl⟩ (by kernel_rfl) rfl
    (fun f fn hf hfn => by
      obtain rfl : f = 5 := Option.some.inj ((show Tryz.prog.funcNamed "subeditor/subeditorlaw05.ItemsNotes" = some 5 by kernel_rfl).symm.trans hf) |>.symm
      obtain rfl : fn = Tryz.f5 := (Option.some.inj (Tryz.func5.symm.trans hfn)).symm
      exact ⟨by kernel_rfl, fun j t ht => by
        rw [Tryz.params5] at ht
        have hm := List.mem_toArray.1 (Array.mem_of_getElem? ht)
        have hall : (Tryz.f5.params.toList.all fun u => !Tryz.prog.wantsStandIn u) = true := by kernel_rfl
        rw [show Tryz.f5.params.toList = _ from congrArg Array.toList Tryz.params5] at hall
        exact (show Tryz.prog.wantsStandIn t = false by simpa using List.all_eq_true.1 hall t hm)⟩)
    (by kernel_rfl)
end Go.Proofs.YtmoamfcaokefiaaGreatDoor.itemsNotes
