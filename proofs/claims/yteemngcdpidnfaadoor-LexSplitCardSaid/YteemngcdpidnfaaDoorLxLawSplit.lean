/-
  subeditorlaw04.LexSplit: for every input it returns true, and the arguments read as they did. No condition.
-/
import Derived.Test.YteemngcdpidnfaaDoorLxSplit
import Derived.Test.YteemngcdpidnfaaDoorLxSame
import Derived.Test.YteemngcdpidnfaaDoorLxSource
import Derived.Laws.AppendOwnNone
import Derived.Test.YteemngcdpidnfaaDoorLxMath2
import Derived.Test.YteemngcdpidnfaaDoorCards
import Derived.Test.YteemngcdpidnfaaDoorTie
import Derived.SevenTiedAt
namespace Go.Proofs.YteemngcdpidnfaaDoor.lexSplit
open Go.RowKit Go.ChangeShapes Go.WideShapes Go.ChangeAt Go.ChangeMaps
open sg (OpsAt lst_len)
open lx
set_option linter.unusedVariables false

theorem app_data (a b : ByteArray) : (a ++ b).data.toList = a.data.toList ++ b.data.toList := by rw [ByteArray.data_append, Array.toList_append]
theorem tokensF_zero {s : ByteArray} (hs : s.size ≤ 65536) {l : List Lx.Tok} {at' : Int} (h : tokensF s.data.toList (utf.checkF s) = (l, 0, at')) : Ok s.data.toList ∧ Lx.lexA Lx.start s.data.toList = (l, 0) := by
  unfold tokensF at h
  rw [if_neg (by rw [lst_len]; omega)] at h
  by_cases hbad : 0 ≤ utf.checkF s
  · rw [if_pos hbad] at h; simp at h
  · rw [if_neg hbad] at h
    by_cases h0 : (Lx.lexA Lx.start s.data.toList).2 = 0
    · rw [if_pos h0] at h
      have h1 := congrArg Prod.fst h
      simp only at h1
      refine ⟨?_, Prod.ext h1 h0⟩
      have := utf.checkF_L s
      unfold Ok
      rw [← this]
      rcases utf.chk_first s.data.toList.length s.data.toList 0 (Nat.le_refl _) with h | ⟨k, _, h, _⟩
      · rw [this, h]
      · rw [this] at hbad; omega
    · rw [if_neg h0] at h
      simp at h
      exact absurd h.2.1 h0
theorem split_math (s t : ByteArray) (hs : s.size ≤ 300) (ht : t.size ≤ 300) (l m : List Lx.Tok) (a b : Int) (h1 : tokensF (s ++ (⟨#[10]⟩ : ByteArray)).data.toList (utf.checkF (s ++ (⟨#[10]⟩ : ByteArray))) = (l, 0, a)) (h2 : tokensF t.data.toList (utf.checkF t) = (m, 0, b))
    (hl : ∀ x, l.getLast? = some x → x.1 = 1) (hm : ∀ x, m.head? = some x → x.1 ≠ 1) :
    tokensF (s ++ (⟨#[10]⟩ : ByteArray) ++ t).data.toList (utf.checkF (s ++ (⟨#[10]⟩ : ByteArray) ++ t)) = (l ++ m, 0, 0) := by
  have hsz : (s ++ (⟨#[10]⟩ : ByteArray)).size = s.size + 1 := by rw [ByteArray.size_append]; rfl
  obtain ⟨o1, e1⟩ := tokensF_zero (by omega) h1
  obtain ⟨o2, e2⟩ := tokensF_zero (by omega) h2
  have hnl : Lx.EndNL (s ++ (⟨#[10]⟩ : ByteArray)).data.toList := by
    have hle : (s ++ (⟨#[10]⟩ : ByteArray)).data.toList.length = s.size + 1 := by rw [lst_len, hsz]
    refine ⟨by omega, ?_⟩
    rw [hle, app_data]
    have : s.data.toList.length = s.size := lst_len s
    show (s.data.toList ++ [10]).getD (s.size + 1 - 1) 0 = 10
    rw [← this]
    simp [List.getD]
  have hsp := Lx.lex_split Lx.start _ t.data.toList hnl l m e1 hl e2 hm
  have hd : (s ++ (⟨#[10]⟩ : ByteArray) ++ t).data.toList = (s ++ (⟨#[10]⟩ : ByteArray)).data.toList ++ t.data.toList := app_data _ _
  rw [← hd] at hsp
  rw [tokensF_ok (by rw [hd]; exact ok_app o1 o2) (by rw [ByteArray.size_append, hsz]; omega) hsp, if_pos rfl]

theorem add_zero' (g j : Nat) : (⟨g, 0, none⟩ : Addr).add j = ⟨g, j, none⟩ := by
  unfold Addr.add
  by_cases h : j = 0
  · subst h; rfl
  · simp [h]
theorem news_at {W W' : World} {g n : Nat} {l : List Lx.Tok} (hc : ∀ j u, (tokCells l)[j]? = some u → W.cell? ⟨g, j, none⟩ = some u) (hg : g < n) (hb : Below n W W') : ∀ j u, (tokCells l)[j]? = some u → W'.cell? ((⟨g, 0, none⟩ : Addr).add j) = some u := fun j u hu => by
  rw [add_zero']
  exact (hb.cell (p := ⟨g, j, none⟩) hg).trans (hc j u hu)
theorem grown_nil {W W' : World} (h : W.grownBy W' (Value.slice none 0 0).ownBlock) : Below W.heap.size W W' := (Below.refl _ W).grown h (Nat.le_refl _) (fun k hk => by cases hk)
theorem grown_own {W W' : World} {base : Nat} {v : Value} {e : TypeId} {s n : Nat} {xs : List Value} (h : W.grownBy W' v.ownBlock) (ho : W.ownsRow base e s v n xs) (hb : base ≤ W.heap.size) : Below base W W' := (Below.refl _ W).grown h hb (fun k hk => (ho.lt k hk).1)
set_option maxRecDepth 100000 in
set_option maxHeartbeats 8000000 in
theorem walk (v u : Value) (bs cs : List Int) (w : World) (hv : law.BytesAt w v bs) (hu : law.BytesAt w u cs) (hw : OpsAt w) :
    Calls Tryd.prog 7 #[v, u] w fun e W' => e = .returned (.bool true) ∧ Below w.heap.size w W' := by
  have HW := Lib.hid hw; have HV := Lib.hid hv; have HU := Lib.hid hu
  obtain ⟨s, hs⟩ : ∃ s, srcF bs = s := ⟨_, rfl⟩
  obtain ⟨t, ht⟩ : ∃ t, srcF cs = t := ⟨_, rfl⟩
  have hss := srcF_size bs
  have hts := srcF_size cs
  have hsc := source_calls v bs w hv
  have htc := fun w h => source_calls u cs w h
  rw [hs] at hss hsc
  rw [ht] at hts
  simp only [ht] at htc
  clear hs ht hv hu hw
  obtain ⟨l, e, a, hl⟩ : ∃ l e a, tokensF (s ++ (⟨#[10]⟩ : ByteArray)).data.toList (utf.checkF (s ++ (⟨#[10]⟩ : ByteArray))) = (l, e, a) := ⟨_, _, _, rfl⟩
  obtain ⟨m, f, b, hm⟩ : ∃ m f b, tokensF t.data.toList (utf.checkF t) = (m, f, b) := ⟨_, _, _, rfl⟩
  have hlc := fun w hw => tokens_row (s ++ (⟨#[10]⟩ : ByteArray)) w hw l e a hl
  have hmc := fun w hw => tokens_row t w hw m f b hm
  have hl1 := tokensF_length (s ++ (⟨#[10]⟩ : ByteArray)).data.toList (utf.checkF (s ++ (⟨#[10]⟩ : ByteArray)))
  have hm1 := tokensF_length t.data.toList (utf.checkF t)
  rw [hl, lst_len] at hl1
  rw [hm, lst_len] at hm1
  have hsz : (s ++ (⟨#[10]⟩ : ByteArray)).size = s.size + 1 := by rw [ByteArray.size_append]; rfl
  rw [hsz] at hl1
  simp only at hl1 hm1
  have hsp := split_math s t hss hts l m a b
  have HL := Lib.hid hl; have HM := Lib.hid hm; have HSP := Lib.hid hsp; have HZ := Lib.hid hsz
  clear hsp hsz hl hm
  have c1 : ¬ (9223372036854775807 < s.size + (⟨#[10]⟩ : ByteArray).size) := by show ¬ (9223372036854775807 < s.size + 1); omega
  have c2 : ¬ (9223372036854775807 < (s ++ (⟨#[10]⟩ : ByteArray)).size + t.size) := by rw [HZ.out]; omega
  go_enter Tryd.func7, Tryd.ntmps7
  go_wp2_with fail
  ((with_reducible refine hsc.mono ?_); rintro _ w2 ⟨rfl, hb2⟩)
  go_wp2_with fail
  ((with_reducible refine (htc _ (HU.out.below hb2)).mono ?_); rintro _ w3 ⟨rfl, hb3⟩)
  have HB3 := Lib.hid (sg.Below.next hb2 hb3 (Nat.le_refl _))
  clear hb2 hb3
  go_wp2_with fail
  ((with_reducible refine (hlc _ (HW.out.own HB3.out)).mono ?_); rintro _ w4 ⟨v4, rfl, hr4, ht4, hb4⟩)
  have HB4 := Lib.hid (sg.Below.next HB3.out hb4 (Nat.le_refl _))
  clear hb4
  go_wp2_with fail
  ((with_reducible refine (hmc _ (HW.out.own HB4.out)).mono ?_); rintro _ w5 ⟨v5, rfl, hr5, ht5, hb5⟩)
  have HB5 := Lib.hid (sg.Below.next HB4.out hb5 (Nat.le_refl _))
  have hr4' := hr4.below hb5 (Nat.le_refl _)
  have hls := hb5.size
  clear hb5 hr4 ht4
  by_cases he : e = 0
  case neg =>
    have e0 : (e == 0) = false := beq_eq_false_iff_ne.2 he
    clear hr5 ht5 hr4'
    go_wp2_with fail
    ((with_reducible refine (known_calls _ (HW.out.own HB5.out)).mono ?_); rintro _ w6 ⟨rfl, hb6⟩)
    go_wp2_with fail
    go_ret
    exact ⟨rfl, sg.Below.next HB5.out hb6 (Nat.le_refl _)⟩
  subst he
  by_cases hf : f = 0
  case neg =>
    have e0 : (f == 0) = false := beq_eq_false_iff_ne.2 hf
    clear hr5 ht5 hr4'
    go_wp2_with fail
    ((with_reducible refine (known_calls _ (HW.out.own HB5.out)).mono ?_); rintro _ w6 ⟨rfl, hb6⟩)
    go_wp2_with fail
    go_ret
    exact ⟨rfl, sg.Below.next HB5.out hb6 (Nat.le_refl _)⟩
  subst hf
  by_cases hln : l = []
  · subst hln
    clear ht5 hr5
    rcases hr4' with ⟨rfl, _⟩ | ⟨g, cap, rfl, _, _⟩
    all_goals
      go_wp2_with fail
      ((with_reducible refine (known_calls _ (HW.out.own HB5.out)).mono ?_); rintro _ w6 ⟨rfl, hb6⟩)
      go_wp2_with fail
      go_ret
      exact ⟨rfl, sg.Below.next HB5.out hb6 (Nat.le_refl _)⟩
  obtain ⟨k, x, hk, hx⟩ : ∃ k x, l.length = k + 1 ∧ l[k]? = some x := by
    obtain ⟨k, hk⟩ : ∃ k, l.length = k + 1 := ⟨l.length - 1, by have := List.length_pos_iff.2 hln; omega⟩
    exact ⟨k, l[k]'(by omega), hk, List.getElem?_eq_getElem (by omega)⟩
  have hlast : l.getLast? = some x := by rw [List.getLast?_eq_getElem?, hk, Nat.add_sub_cancel]; exact hx
  rcases hr4' with ⟨_, h0⟩ | ⟨g, cap, rfl, hg, hcells⟩
  · exact absurd h0 hln
  have hx0 := hcells (k * 2) _ (tokCells_at l k x hx).1
  have hkm : k ≤ 302 := by omega
  have hki : ((k + 1 : Nat) : Int) - 1 = (k : Int) := by omega
  have HCE := Lib.hid hcells; have HLEN := Lib.hid hk
  rw [hk]
  have HLS := Lib.hid hls
  clear hcells hx hk hls
  by_cases hx1 : x.1 = 1
  case neg =>
    have e0 : (x.1 == 1) = false := beq_eq_false_iff_ne.2 hx1
    clear hr5 ht5
    go_wp2_with fail
    ((with_reducible refine (known_calls _ (HW.out.own HB5.out)).mono ?_); rintro _ w6 ⟨rfl, hb6⟩)
    go_wp2_with fail
    go_ret
    exact ⟨rfl, sg.Below.next HB5.out hb6 (Nat.le_refl _)⟩
  rw [hx1] at hx0
  obtain ⟨i0, hi, hz0, hz1, hz2⟩ := info_parts infoTok
  clear ht5
  cases m with
  | nil =>
    have hxc := fun w hw => tokens_row _ w hw (l ++ []) 0 0 (HSP.out HL.out HM.out (fun z h => by rw [hlast] at h; cases h; exact hx1) (fun z h => by cases h))
    have hlm : (l ++ []).length ≤ maxLen := by rw [List.append_nil, HLEN.out]; unfold maxLen; omega
    rcases hr5 with ⟨rfl, _⟩ | ⟨g2, cap2, rfl, hg2, hc2⟩
    · go_wp2_with fail
      ((with_reducible refine (hxc _ (HW.out.own HB5.out)).mono ?_); rintro _ w6 ⟨v6, rfl, _, ht6, hb6⟩)
      have HB6 := Lib.hid (sg.Below.next HB5.out hb6 (Nat.le_refl _))
      have hn6 := news_at HCE.out (Nat.lt_of_lt_of_le hg HLS.out) hb6
      have hlen6 : (tokCells l).length = (k + 1) * 2 := by rw [tokCells_len, HLEN.out]
      have hrow0 : w6.ownsRow w6.heap.size 34 2 (.slice none 0 0) 0 [] := World.ownsRow_nil _ _ _ _
      go_wp2_with (at_builtin; (refine wpList_append_own _ rfl _ _ 27 rfl w6.heap.size 34 i0 (.agg #[.int .i64 0, .string ⟨#[]⟩]) 2 24 Tryd.underlying27 hi hz0 hz1 hz2 rfl (by decide) _ _ _ rfl hrow0 ⟨g, 0, none⟩ (k + 1) _ (tokCells l) rfl hlen6 hn6 (tokCells_one l) (by unfold maxLen; omega) (by omega) (Nat.le_refl _) ?_; intro v7 w7 hown7 hgrow7 _; rw [List.nil_append, Nat.zero_add] at hown7; obtain ⟨gg, capg, cur, rfl, hgg, hgb, hcur⟩ := own_some (by omega) hown7; go_wp2_with (at_builtin; refine wpList_append_own_none rfl _ _ 27 rfl w6.heap.size 34 i0 2 Tryd.underlying27 hi _ _ _ rfl hown7 rfl ?_)))
      have hb7 := grown_nil hgrow7
      have hrow : w7.ownsRow w6.heap.size 34 2 (.slice (some ⟨gg, 0, none⟩) (k + 1) capg) (l ++ []).length (tokCells (l ++ [])) := by
        rw [List.append_nil, HLEN.out]
        exact hown7
      have HB8 := Lib.hid (sg.Below.next HB6.out hb7 (Nat.le_refl _))
      ((with_reducible refine (known_calls _ (HW.out.own HB8.out)).mono ?_); rintro _ w9 ⟨rfl, hb9⟩)
      have HB9 := Lib.hid (sg.Below.next hb7 hb9 (Nat.le_refl _))
      have hsm := same_calls v6 _ ((l ++ []).map asTk) ((l ++ []).map asTk) w9 w9.heap.size (((ht6.tks hlm).below HB9.out (Nat.le_refl _)).mono HB9.out.size) (((ownsRow_toks hrow).tks hlm).below hb9 (Nat.le_refl _) |>.mono hb9.size) true (decide_eq_true rfl)
      go_wp2_with fail
      ((with_reducible refine hsm.mono ?_); rintro _ w10 ⟨rfl, hb10⟩)
      go_wp2_with fail
      go_ret
      exact ⟨rfl, sg.Below.next (sg.Below.next HB6.out HB9.out (Nat.le_refl _)) hb10 (Nat.le_refl _)⟩
    · have HMM := Lib.hid (show k + 1 + (([] : List Lx.Tok)).length ≤ maxLen ∧ (k + 1 + (([] : List Lx.Tok)).length) * 24 ≤ 140737488355328 from ⟨by unfold maxLen; omega, by omega⟩)
      have HC2 := Lib.hid hc2
      clear hc2
      go_wp2_with fail
      ((with_reducible refine (hxc _ (HW.out.own HB5.out)).mono ?_); rintro _ w6 ⟨v6, rfl, _, ht6, hb6⟩)
      have HB6 := Lib.hid (sg.Below.next HB5.out hb6 (Nat.le_refl _))
      have hn6 := news_at HCE.out (Nat.lt_of_lt_of_le hg HLS.out) hb6
      have hlen6 : (tokCells l).length = (k + 1) * 2 := by rw [tokCells_len, HLEN.out]
      have hrow0 : w6.ownsRow w6.heap.size 34 2 (.slice none 0 0) 0 [] := World.ownsRow_nil _ _ _ _
      go_wp2_with (at_builtin; (refine wpList_append_own _ rfl _ _ 27 rfl w6.heap.size 34 i0 (.agg #[.int .i64 0, .string ⟨#[]⟩]) 2 24 Tryd.underlying27 hi hz0 hz1 hz2 rfl (by decide) _ _ _ rfl hrow0 ⟨g, 0, none⟩ (k + 1) _ (tokCells l) rfl hlen6 hn6 (tokCells_one l) (by unfold maxLen; omega) (by omega) (Nat.le_refl _) ?_; intro v7 w7 hown7 hgrow7 _; rw [List.nil_append, Nat.zero_add] at hown7; obtain ⟨gg, capg, cur, rfl, hgg, hgb, hcur⟩ := own_some (by omega) hown7; go_wp2_with (at_builtin; refine wpList_append_own _ rfl _ _ 27 rfl w6.heap.size 34 i0 (.agg #[.int .i64 0, .string ⟨#[]⟩]) 2 24 Tryd.underlying27 hi hz0 hz1 hz2 rfl (by decide) _ _ _ rfl hown7 ⟨g2, 0, none⟩ (([] : List Lx.Tok)).length _ (tokCells (([] : List Lx.Tok))) rfl (tokCells_len _) (news_at HC2.out hg2 (sg.Below.next hb6 (grown_nil hgrow7) (Nat.le_refl _))) (tokCells_one _) HMM.out.1 HMM.out.2 (grown_nil hgrow7).size ?_; intro v8 w8 hown8 hgrow8 _)))
      have hb8 := (grown_nil hgrow7).trans (grown_own hgrow8 hown7 (grown_nil hgrow7).size)
      have hrow : w8.ownsRow w6.heap.size 34 2 v8 (l ++ ([] : List Lx.Tok)).length (tokCells (l ++ ([] : List Lx.Tok))) := by
        rw [List.length_append, tokCells_app, HLEN.out]
        exact hown8
      have HB8 := Lib.hid (sg.Below.next HB6.out hb8 (Nat.le_refl _))
      ((with_reducible refine (known_calls _ (HW.out.own HB8.out)).mono ?_); rintro _ w9 ⟨rfl, hb9⟩)
      have HB9 := Lib.hid (sg.Below.next hb8 hb9 (Nat.le_refl _))
      have hsm := same_calls v6 v8 ((l ++ ([] : List Lx.Tok)).map asTk) ((l ++ ([] : List Lx.Tok)).map asTk) w9 w9.heap.size (((ht6.tks hlm).below HB9.out (Nat.le_refl _)).mono HB9.out.size) (((ownsRow_toks hrow).tks hlm).below hb9 (Nat.le_refl _) |>.mono hb9.size) true (decide_eq_true rfl)
      go_wp2_with fail
      ((with_reducible refine hsm.mono ?_); rintro _ w10 ⟨rfl, hb10⟩)
      go_wp2_with fail
      go_ret
      exact ⟨rfl, sg.Below.next (sg.Below.next HB6.out HB9.out (Nat.le_refl _)) hb10 (Nat.le_refl _)⟩
  | cons y r =>
    rcases hr5 with ⟨_, h0⟩ | ⟨g2, cap2, rfl, hg2, hc2⟩
    · cases h0
    have hy0 := hc2 0 _ (tokCells_at (y :: r) 0 y rfl).1
    have hrl : ((r.length : Int) + 1) > 0 := by omega
    by_cases hy1 : y.1 = 1
    · rw [hy1] at hy0
      clear hc2
      go_wp2_with fail
      ((with_reducible refine (known_calls _ (HW.out.own HB5.out)).mono ?_); rintro _ w6 ⟨rfl, hb6⟩)
      go_wp2_with fail
      go_ret
      exact ⟨rfl, sg.Below.next HB5.out hb6 (Nat.le_refl _)⟩
    have e0 : (y.1 == 1) = false := beq_eq_false_iff_ne.2 hy1
    have hxc := fun w hw => tokens_row _ w hw (l ++ y :: r) 0 0 (HSP.out HL.out HM.out (fun z h => by rw [hlast] at h; cases h; exact hx1) (fun z h => by cases h; exact hy1))
    have hlm : (l ++ y :: r).length ≤ maxLen := by rw [List.length_append, HLEN.out]; unfold maxLen; omega
    have HMM := Lib.hid (show k + 1 + (y :: r).length ≤ maxLen ∧ (k + 1 + (y :: r).length) * 24 ≤ 140737488355328 from ⟨by unfold maxLen; omega, by omega⟩)
    have HC2 := Lib.hid hc2
    clear hc2
    go_wp2_with fail
    ((with_reducible refine (hxc _ (HW.out.own HB5.out)).mono ?_); rintro _ w6 ⟨v6, rfl, _, ht6, hb6⟩)
    have HB6 := Lib.hid (sg.Below.next HB5.out hb6 (Nat.le_refl _))
    have hn6 := news_at HCE.out (Nat.lt_of_lt_of_le hg HLS.out) hb6
    have hlen6 : (tokCells l).length = (k + 1) * 2 := by rw [tokCells_len, HLEN.out]
    have hrow0 : w6.ownsRow w6.heap.size 34 2 (.slice none 0 0) 0 [] := World.ownsRow_nil _ _ _ _
    go_wp2_with (at_builtin; (refine wpList_append_own _ rfl _ _ 27 rfl w6.heap.size 34 i0 (.agg #[.int .i64 0, .string ⟨#[]⟩]) 2 24 Tryd.underlying27 hi hz0 hz1 hz2 rfl (by decide) _ _ _ rfl hrow0 ⟨g, 0, none⟩ (k + 1) _ (tokCells l) rfl hlen6 hn6 (tokCells_one l) (by unfold maxLen; omega) (by omega) (Nat.le_refl _) ?_; intro v7 w7 hown7 hgrow7 _; rw [List.nil_append, Nat.zero_add] at hown7; obtain ⟨gg, capg, cur, rfl, hgg, hgb, hcur⟩ := own_some (by omega) hown7; go_wp2_with (at_builtin; refine wpList_append_own _ rfl _ _ 27 rfl w6.heap.size 34 i0 (.agg #[.int .i64 0, .string ⟨#[]⟩]) 2 24 Tryd.underlying27 hi hz0 hz1 hz2 rfl (by decide) _ _ _ rfl hown7 ⟨g2, 0, none⟩ (y :: r).length _ (tokCells (y :: r)) rfl (tokCells_len _) (news_at HC2.out hg2 (sg.Below.next hb6 (grown_nil hgrow7) (Nat.le_refl _))) (tokCells_one _) HMM.out.1 HMM.out.2 (grown_nil hgrow7).size ?_; intro v8 w8 hown8 hgrow8 _)))
    have hb8 := (grown_nil hgrow7).trans (grown_own hgrow8 hown7 (grown_nil hgrow7).size)
    have hrow : w8.ownsRow w6.heap.size 34 2 v8 (l ++ y :: r).length (tokCells (l ++ y :: r)) := by
      rw [List.length_append, tokCells_app, HLEN.out]
      exact hown8
    have HB8 := Lib.hid (sg.Below.next HB6.out hb8 (Nat.le_refl _))
    ((with_reducible refine (known_calls _ (HW.out.own HB8.out)).mono ?_); rintro _ w9 ⟨rfl, hb9⟩)
    have HB9 := Lib.hid (sg.Below.next hb8 hb9 (Nat.le_refl _))
    have hsm := same_calls v6 v8 ((l ++ y :: r).map asTk) ((l ++ y :: r).map asTk) w9 w9.heap.size (((ht6.tks hlm).below HB9.out (Nat.le_refl _)).mono HB9.out.size) (((ownsRow_toks hrow).tks hlm).below hb9 (Nat.le_refl _) |>.mono hb9.size) true (decide_eq_true rfl)
    go_wp2_with fail
    ((with_reducible refine hsm.mono ?_); rintro _ w10 ⟨rfl, hb10⟩)
    go_wp2_with fail
    go_ret
    exact ⟨rfl, sg.Below.next (sg.Below.next HB6.out HB9.out (Nat.le_refl _)) hb10 (Nat.le_refl _)⟩

set_option maxRecDepth 100000 in
theorem lifted (os : Os) (started : os.Started) (H : Type) (enc : TypeId × Value → H) :
    ReturnsInHanded {} Tryd.checked os 7 .any (fun w args => (Rows.lexSplitSpec.pre enc Tryd.prog Tryd.f7 Rows.lexSplitRow.domain false w args ∧ laidMetH Tryd.prog lx.laid w) ∧ sizedMet enc Tryd.prog Tryd.f7 (OpenSpec.ofChange Rows.lexSplitSpec) false w args) (Rows.lexSplitSpec.post enc Tryd.prog Tryd.f7 false true false false) := by
  refine returnsInHanded_of_change_and (C := Tryd.checked) (X := fun w _ => laidMetH Tryd.prog lx.laid w) (fun _ _ _ hh h => h.of_heap hh) law.own started (by kernel_rfl) Tryd.func7
    (ChangeSpec.witness_shaped (enc := enc) (C := Tryd.checked) (os := os) (X := fun w _ => laidMetH Tryd.prog lx.laid w) false (World.laidAll Tryd.prog os lx.laid) #[.slice none 0 0, .slice none 0 0] 8 (World.laidAll_os _ _ _) (World.shaped_of_ZipB (by kernel_rfl) (by kernel_rfl)) (by kernel_rfl) (by kernel_rfl) (by kernel_rfl) (lx.laid_met os _)) ?_
  intro W base args ds gs before hval0 hW _ hsize0 hL _
  have hsize : (DataW.weightsEach Tryd.prog (Tryd.f7.params.toList ++ _) (ds ++ gs)).all (· ≤ reachBytes) = true := hsize0
  have hOps := lx.ops_of_laid hL
  have hval : ∀ (j : Nat) t v, Tryd.f7.params[j]? = some t → args[j]? = some v → Value.okWide Tryd.prog W .any base t v := hval0
  have hW' := hW
  obtain ⟨p, q, hA0, hV, rfl, _, _⟩ := hW
  have hA : DataW.TrodAll enc Tryd.prog W 0 (fun _ => true) true Tryd.f7.params.toList args.toList ds p := hA0
  rw [Tryd.params7] at hA hval
  obtain ⟨v0, v1, d0, d1, p0, p1, rfl, rfl, rfl, h0, h1⟩ := trodAll_two hA
  obtain ⟨rfl, rfl⟩ := trodVars_none hV
  obtain ⟨bs, hbs⟩ := law.open_bytes (hval 0 22 v0 rfl rfl) h0
  obtain ⟨cs, hcs⟩ := law.open_bytes (hval 1 22 v1 rfl rfl) h1
  clear hL
  refine (walk v0 v1 bs cs W hbs hcs hOps).mono fun e W' ⟨he, hb⟩ => ⟨_, he, ?_⟩
  exact law.law_post rfl hW' rfl (by kernel_rfl) (by kernel_rfl) hb

/-- LexSplit, for every input. -/
theorem holds : Rows.LexSplitSaid :=
  OpenClaim.holds_of_wide 7 Tryd.f7 rfl rfl rfl rfl rfl rfl rfl ⟨rfl, rfl, rfl, rfl, rfl⟩ rfl rfl rfl rfl rfl (by kernel_rfl) Tryd.func7 (by kernel_rfl)
    (of_decide_eq_true (by kernel_rfl)) (by unfold Func.isWrapper; first | (rw [if_pos (by decide +kernel)]; kernel_rfl) | (rw [if_neg (by decide +kernel)]; exact ⟨rfl, rfl⟩))
    (fun os started H enc _ => lifted os started H enc)

/-- The tied card of LexSplit. -/
theorem card : Rows.LexSplitCardSaid :=
  Claim7.holds_tied_plain_at .later [] [.data, .data, .pinned] true Rows.lexSplitCard.stood.harness false
    holds (fun _ h => by cases h) (by kernel_rfl) (fun _ h => by cases h) lexSplit_row_tie rfl ⟨rfl, rfl⟩ (by kernel_rfl) rfl
    (fun f fn hf hfn => by
      obtain rfl : f = 7 := Option.some.inj ((show Tryd.prog.funcNamed "subeditor/subeditorlaw04.LexSplit" = some 7 by kernel_rfl).symm.trans hf) |>.symm
      obtain rfl : fn = Tryd.f7 := (Option.some.inj (Tryd.func7.symm.trans hfn)).symm
      exact ⟨by kernel_rfl, fun j t ht => by
        rw [Tryd.params7] at ht
        have hm := List.mem_toArray.1 (Array.mem_of_getElem? ht)
        have hall : (Tryd.f7.params.toList.all fun u => !Tryd.prog.wantsStandIn u) = true := by kernel_rfl
        rw [show Tryd.f7.params.toList = _ from congrArg Array.toList Tryd.params7] at hall
        exact (show Tryd.prog.wantsStandIn t = false by simpa using List.all_eq_true.1 hall t hm)⟩)
    (by kernel_rfl)
end Go.Proofs.YteemngcdpidnfaaDoor.lexSplit
