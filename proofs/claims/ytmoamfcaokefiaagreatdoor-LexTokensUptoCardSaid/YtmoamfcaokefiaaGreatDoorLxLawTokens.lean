/-
  subeditorlaw04.LexTokens: for every input it returns true, and the arguments read as they did. No condition.
-/
import Derived.Test.YtmoamfcaokefiaaGreatDoorLxDoc
import Derived.Test.YtmoamfcaokefiaaGreatDoorLxSource
import Derived.Test.YtmoamfcaokefiaaGreatDoorLxMath2
import Derived.Test.YtmoamfcaokefiaaGreatDoorUtfText
import Derived.Test.YtmoamfcaokefiaaGreatDoorCards
import Derived.Test.YtmoamfcaokefiaaGreatDoorTie
import Derived.SevenTiedAt
import Derived.Deep.DeepHandedRow
namespace Go.Proofs.YtmoamfcaokefiaaGreatDoor.lexTokens
open Go.RowKit Go.ChangeShapes Go.WideShapes Go.ChangeAt Go.ChangeMaps
open sg (OpsAt lst_len)
open lx
set_option linter.unusedVariables false

theorem lex_err_le (x : Lx.Lex) (l : List UInt8) : 0 ≤ (Lx.lexA x l).2 ∧ (Lx.lexA x l).2 ≤ 21 := by
  generalize hn : l.length = n
  induction n using Nat.strongRecOn generalizing l x with
  | ind n ih =>
    subst hn
    by_cases h0 : l = []
    · subst h0; rw [Lx.lexA_nil]; simp only; split <;> omega
    · cases hx : Lx.next x l with
      | error e => rw [Lx.lexA_err hx h0]; rcases Lx.next_err_ne hx with h | h | h <;> simp only <;> omega
      | ok p =>
        obtain ⟨k, n, y⟩ := p
        have hl := Lx.next_le hx
        rw [Lx.lexA_ok hx h0]
        exact ih (l.drop n).length (by rw [List.length_drop]; omega) y (l.drop n) rfl
theorem err_le {l : List UInt8} {chk : Int} {ts : List Lx.Tok} {er at' : Int} (h : tokensF l chk = (ts, er, at')) : 0 ≤ er ∧ er ≤ 21 := by
  have h1 := lex_err_le Lx.start l
  unfold tokensF at h
  split at h
  · have := (Prod.mk.inj (Prod.mk.inj h).2).1; omega
  · split at h
    · have := (Prod.mk.inj (Prod.mk.inj h).2).1; omega
    · split at h
      · have := (Prod.mk.inj (Prod.mk.inj h).2).1; omega
      · have := (Prod.mk.inj (Prod.mk.inj h).2).1; omega

set_option maxRecDepth 100000 in
set_option maxHeartbeats 4000000 in
theorem ltok_calls (s : ByteArray) (hs : s.size ≤ 1000) (w : World) (hw : OpsAt w) : Calls Tryz.prog 23 #[.string s] w fun e w' => e = .returned (.bool true) ∧ Below w.heap.size w w' := by
  obtain ⟨l, er, at', he⟩ : ∃ l er at', tokensF s.data.toList (utf.checkF s) = (l, er, at') := ⟨_, _, _, rfl⟩
  have hto := tokens_as s w hw l er at' he
  have hrt := fun w => rtokens_as s hs w l er at' he
  have hln := len_tokens s (by omega)
  rw [he] at hln
  have hlm : l.length ≤ maxLen := by unfold maxLen; simp only at hln; omega
  obtain ⟨h1, h2⟩ := err_le he
  have hw1 : IntKind.i64.wrap er = er := (IntWalk.i64_left _).trans (IntWalk.wrap64_in _ (by omega))
  have hw2 : wrap64 er = er := IntWalk.wrap64_in _ (by omega)
  have hw3 : (er == er) = true := beq_self_eq_true er
  have hw4 : (at' == at') = true := beq_self_eq_true at'
  clear he hln h1 h2
  go_enter Tryz.func23, Tryz.ntmps23
  go_wp2_with fail
  ((with_reducible refine hto.mono ?_); rintro _ w2 ⟨v2, rfl, ht2, hb2⟩)
  obtain ⟨a2, c2, hv2⟩ : ∃ ao cap, v2 = .slice ao l.length cap := by obtain ⟨ao, cap, h, _⟩ := ht2; exact ⟨ao, cap, h⟩
  subst hv2
  have HT2 := Lib.hid ht2; have HB2 := Lib.hid hb2
  clear ht2 hb2
  go_wp2_with fail
  ((with_reducible refine (hrt _).mono ?_); rintro _ w3 ⟨v3, rfl, ho3, hb3⟩)
  have HB3 := Lib.hid (sg.Below.next HB2.out hb3 (Nat.le_refl _))
  have hsm := same_calls _ v3 (l.map asTk) (l.map asTk) w3 w3.heap.size (((HT2.out.tks hlm).below hb3 (Nat.le_refl _)).mono hb3.size) ((ownsRow_toks ho3).tks hlm) true (decide_eq_true rfl)
  obtain ⟨a3, l3, c3, rfl⟩ := own_slice ho3
  clear ho3 hb3
  go_wp2_with fail
  ((with_reducible refine hsm.mono ?_); rintro _ w4 ⟨rfl, hb4⟩)
  go_wp2_with fail
  go_ret
  exact ⟨rfl, sg.Below.next HB3.out hb4 (Nat.le_refl _)⟩

set_option maxRecDepth 100000 in
set_option maxHeartbeats 4000000 in
theorem rows_calls (v : Value) (ts : List Tk) (w : World) (h : TksAt w.heap.size w v ts) (hs : sizeT ts ≤ 1000) (hw : OpsAt w) : Calls Tryz.prog 25 #[v] w fun e w' => e = .returned (.bool true) ∧ Below w.heap.size w w' := by
  have h1 := join_calls v ts w h (by omega)
  have h2 : ∀ w2 : World, Below w.heap.size w w2 → Calls Tryz.prog 51 #[v] w2 fun e w' => e = .returned (.string (joinB ts)) ∧ Below w2.heap.size w2 w' := fun w2 hb => rjoin_calls v ts w2 w.heap.size (h.below hb (Nat.le_refl _)) (by omega)
  have hj : (⟨(joinT ts).toArray⟩ : ByteArray) = joinB ts := by rw [← joinB_T]
  rw [hj] at h1
  obtain ⟨b, hb⟩ : ∃ b, rightT ts = b := ⟨_, rfl⟩
  have h3 : ∀ w2 : World, Below w.heap.size w w2 → Calls Tryz.prog 52 #[v] w2 fun e w' => e = .returned (.bool b) ∧ Below w2.heap.size w2 w' := fun w2 hb2 => right_calls v ts w2 ((h.below hb2 (Nat.le_refl _)).mono hb2.size) (by omega) (hw.own hb2) b hb
  have h4 : ∀ w2 : World, Below w.heap.size w w2 → Calls Tryz.prog 53 #[v] w2 fun e w' => e = .returned (.bool b) ∧ Below w2.heap.size w2 w' := fun w2 hb2 => rright_calls v ts w2 ((h.below hb2 (Nat.le_refl _)).mono hb2.size) hs b hb
  obtain ⟨j, hjj⟩ : ∃ j, joinB ts = j := ⟨_, rfl⟩
  simp only [hjj] at h1 h2
  have e1 : (j.toList == j.toList) = true := beq_self_eq_true _
  have e2 : (b == b) = true := beq_self_eq_true _
  clear hj hjj hb h hs hw
  go_enter Tryz.func25, Tryz.ntmps25
  go_wp2_with fail
  ((with_reducible refine h1.mono ?_); rintro _ w2 ⟨rfl, hb2⟩)
  have HB2 := Lib.hid hb2
  clear hb2
  go_wp2_with fail
  ((with_reducible refine (h2 _ HB2.out).mono ?_); rintro _ w3 ⟨rfl, hb3⟩)
  have HB3 := Lib.hid (sg.Below.next HB2.out hb3 (Nat.le_refl _))
  clear hb3
  go_wp2_with fail
  ((with_reducible refine (h3 _ HB3.out).mono ?_); rintro _ w4 ⟨rfl, hb4⟩)
  have HB4 := Lib.hid (sg.Below.next HB3.out hb4 (Nat.le_refl _))
  clear hb4
  go_wp2_with fail
  ((with_reducible refine (h4 _ HB4.out).mono ?_); rintro _ w5 ⟨rfl, hb5⟩)
  have HB5 := Lib.hid (sg.Below.next HB4.out hb5 (Nat.le_refl _))
  clear hb5
  go_wp2_with fail
  go_ret
  exact ⟨rfl, HB5.out⟩

theorem size_asTk (l : List Lx.Tok) : sizeT (l.map asTk) = Lx.size l := by
  unfold sizeT Lx.size
  rw [List.map_map]
  congr 1
theorem tokens_size (s : ByteArray) : Lx.size (tokensF s.data.toList (utf.checkF s)).1 ≤ s.size := by
  have h1 := Lx.size_le Lx.start s.data.toList
  rw [lst_len] at h1
  unfold tokensF
  split
  · exact Nat.zero_le _
  · split
    · exact Nat.zero_le _
    · split
      · exact h1
      · exact Nat.zero_le _
theorem size_take (l : List Lx.Tok) (k : Nat) : Lx.size (l.take k) ≤ Lx.size l := by
  have h := congrArg Lx.size (List.take_append_drop k l)
  simp only [Lx.size, List.map_append, List.sum_append] at h ⊢
  omega
theorem quoted_size (t : ByteArray) (h : t.size ≤ 300) : ((⟨#[34]⟩ : ByteArray) ++ t ++ ⟨#[34]⟩).size ≤ 1000 := by
  rw [ByteArray.size_append, ByteArray.size_append]
  show 1 + t.size + 1 ≤ 1000
  omega
theorem small_many {H : Type} {d0 d1 d2 d3 : DataW H} {n : Nat} (h : n ≤ Rows.uptoBulk d1) (hk : Rows.uptoSmall H ([d0, d1, d2, d3] ++ []) = true) : n ≤ 1048576 := by
  have := of_decide_eq_true hk
  simp only [Rows.uptoBulkAll, List.append_nil] at this
  omega

theorem kw {k : Nat} (h : k ≤ 100000) : wrap64 (k : Int) = (k : Int) := IntWalk.wrap64_in _ (by omega)
theorem half_at {W : World} {n : Nat} {ao : Option Addr} {cap k : Nat} {l : List Lx.Tok} (h : RowAt W n (.slice ao l.length cap) l) (hk : k ≤ l.length) (hm : l.length ≤ maxLen) : TksAt n W (.slice ao k cap) ((l.take k).map asTk) := by
  refine ⟨ao, cap, by rw [List.length_map, List.length_take, Nat.min_eq_left hk], by rw [List.length_map, List.length_take]; omega, fun j t ht => ?_⟩
  rw [List.getElem?_map] at ht
  cases hx : (l.take k)[j]? with
  | none => rw [hx] at ht; cases ht
  | some x =>
    rw [hx] at ht
    cases ht
    have hj := (List.getElem?_eq_some_iff.1 hx).1
    rw [List.length_take] at hj
    rw [List.getElem?_take_of_lt (by omega)] at hx
    rcases h with ⟨_, h0⟩ | ⟨g, cap', hv, hg, hc⟩
    · rw [h0] at hx; cases hx
    · cases hv
      obtain ⟨c0, c1⟩ := tokCells_at l j x hx
      exact ⟨g, 0, rfl, hg, by rw [Nat.zero_add]; exact hc _ _ c0, by rw [Nat.zero_add]; exact hc _ _ c1⟩

set_option maxRecDepth 100000 in
set_option maxHeartbeats 8000000 in
theorem walk (s : ByteArray) (vl : Value) (ts : List Tk) (v u : Value) (bs cs : List Int) (w : World) (hl : TksAt w.heap.size w vl ts) (hmt : manyT ts ≤ 1048576) (hv : law.BytesAt w v bs) (hu : law.BytesAt w u cs) (hw : OpsAt w) :
    Calls Tryz.prog 9 #[.string s, vl, v, u] w fun e W' => e = .returned (.bool true) ∧ Below w.heap.size w W' := by
  have HW := Lib.hid hw
  have HV := Lib.hid hv
  have HU := Lib.hid hu
  have HL := Lib.hid hl
  have hmc := many_calls vl ts w w.heap.size hl hmt
  clear hw hv hu hl
  by_cases hs : 300 < s.size
  · have hl1 : (300 : Int) < (s.size : Int) := by omega
    go_enter Tryz.func9, Tryz.ntmps9
    go_wp2_with fail
    ((with_reducible refine (known_calls _ HW.out).mono ?_); rintro _ w2 ⟨rfl, hb2⟩)
    go_wp2_with fail
    go_ret
    exact ⟨rfl, hb2⟩
  · have hl2 : decide ((300 : Int) < (s.size : Int)) = false := decide_eq_false (by omega)
    have hl1 : (s.size : Int) ≤ 300 := by omega
    by_cases hm : 300 < (manyT ts : Int)
    · rw [decide_eq_true hm] at hmc
      clear hmt hm
      go_enter Tryz.func9, Tryz.ntmps9
      go_wp2_with fail
      ((with_reducible refine hmc.mono ?_); rintro _ w1 ⟨rfl, hb1⟩)
      have HB1 := Lib.hid hb1
      clear hb1
      go_wp2_with fail
      ((with_reducible refine (known_calls _ (HW.out.own HB1.out)).mono ?_); rintro _ w2 ⟨rfl, hb2⟩)
      have HB2 := Lib.hid (sg.Below.next HB1.out hb2 (Nat.le_refl _))
      clear hb2
      go_wp2_with fail
      go_ret
      exact ⟨rfl, HB2.out⟩
    · rw [decide_eq_false hm] at hmc
      have hst : sizeT ts ≤ 1000 := by have := manyT_eq ts; omega
      obtain ⟨t, hts⟩ : ∃ t, srcF bs = t := ⟨_, rfl⟩
      have htz := srcF_size bs
      have hsc : ∀ w2 : World, Below w.heap.size w w2 → Calls Tryz.prog 13 #[v] w2 fun e w' => e = .returned (.string (srcF bs)) ∧ Below w2.heap.size w2 w' := fun w2 hb => source_calls v bs w2 (HV.out.below hb)
      have htc : ∀ w2 : World, Below w.heap.size w w2 → Calls Tryz.prog 24 #[u] w2 fun e w' => e = .returned (.string (utf.textF cs)) ∧ Below w2.heap.size w2 w' := fun w2 hb => utf.text_calls u cs w2 (HU.out.below hb)
      simp only [hts] at hsc htz
      obtain ⟨x, hx⟩ : ∃ x, utf.textF cs = x := ⟨_, rfl⟩
      have hxz := utf.textF_size cs
      simp only [hx] at htc hxz
      obtain ⟨l, er, at', he⟩ : ∃ l er at', tokensF t.data.toList (utf.checkF t) = (l, er, at') := ⟨_, _, _, rfl⟩
      have hrt := fun w => rtokens_as t (by omega) w l er at' he
      have hln := len_tokens t (by omega)
      have hsl := tokens_size t
      rw [he] at hln hsl
      simp only at hln hsl
      have hsm : sizeT (l.map asTk) ≤ 1000 := by rw [size_asTk]; omega
      have hlm : l.length ≤ maxLen := by unfold maxLen; omega
      obtain ⟨k, hk⟩ : ∃ k, l.length / 2 = k := ⟨_, rfl⟩
      have hkl : k ≤ l.length := by omega
      have hsh : sizeT ((l.take k).map asTk) ≤ 1000 := by rw [size_asTk]; have := size_take l k; omega
      have hqz := quoted_size t (by omega)
      have hq1 : ¬ (9223372036854775807 < 1 + t.size) := by omega
      have hq2 : ¬ (9223372036854775807 < 1 + t.size + 1) := by omega
      have T1 := fun w hw => ltok_calls s (by omega) w hw
      have T2 := fun w hw => ltok_calls t (by omega) w hw
      have T3 := fun w hw => ltok_calls x (by omega) w hw
      have T4 := fun w hw => ltok_calls _ hqz w hw
      have R1 : ∀ w2 : World, Below w.heap.size w w2 → Calls Tryz.prog 25 #[vl] w2 fun e w' => e = .returned (.bool true) ∧ Below w2.heap.size w2 w' := fun w2 hb => rows_calls vl ts w2 ((HL.out.below hb (Nat.le_refl _)).mono hb.size) hst (HW.out.own hb)
      have hdiv : ((l.length : Int).tdiv 2) = (k : Int) := by rw [← hk]; rfl
      have hkl1 : (k : Int) ≤ (l.length : Int) := by omega
      have hk0 : (0 : Int) ≤ (k : Int) := by omega
      have HKB := Lib.hid (show k ≤ 100000 by omega)
      have HK := Lib.hid hk
      clear hts hx he hln hsl hm hmt hk hqz
      go_enter Tryz.func9, Tryz.ntmps9
      go_wp2_with fail
      ((with_reducible refine hmc.mono ?_); rintro _ w1 ⟨rfl, hb1⟩)
      have HB1 := Lib.hid hb1
      clear hb1
      go_wp2_with fail
      ((with_reducible refine (known_calls _ (HW.out.own HB1.out)).mono ?_); rintro _ w2 ⟨rfl, hb2⟩)
      have HB2 := Lib.hid (sg.Below.next HB1.out hb2 (Nat.le_refl _))
      clear hb2
      go_wp2_with fail
      ((with_reducible refine (hsc _ HB2.out).mono ?_); rintro _ w3 ⟨rfl, hb3⟩)
      have HB3 := Lib.hid (sg.Below.next HB2.out hb3 (Nat.le_refl _))
      clear hb3
      go_wp2_with fail
      ((with_reducible refine (hrt _).mono ?_); rintro _ w4 ⟨vm, rfl, ho4, hb4⟩)
      have HB4 := Lib.hid (sg.Below.next HB3.out hb4 (Nat.le_refl _))
      have hrow := ownsRow_row ho4
      have hcap : ∃ ao cap, vm = .slice ao l.length cap ∧ k ≤ cap := by
        rcases ho4.2 with ⟨rfl, h0⟩ | ⟨g, cap, cur, rfl, _, _, h4, _⟩
        · exact ⟨none, 0, by rw [h0], by omega⟩
        · exact ⟨_, cap, rfl, by omega⟩
      have HM := Lib.hid ((ownsRow_toks ho4).tks hlm)
      obtain ⟨am, cm, hvm, hcm⟩ := hcap
      subst hvm
      have hcm1 : (k : Int) ≤ (cm : Int) := by omega
      have HH := Lib.hid (half_at hrow hkl hlm)
      clear hb4 ho4 hrow
      go_wp2_with fail
      ((with_reducible refine (T1 _ (HW.out.own HB4.out)).mono ?_); rintro _ w5 ⟨rfl, hb5⟩)
      have HB5 := Lib.hid (sg.Below.next HB4.out hb5 (Nat.le_refl _))
      have HM5 := Lib.hid ((HM.out.below hb5 (Nat.le_refl _)).mono hb5.size)
      have HH5 := Lib.hid ((HH.out.below hb5 (Nat.le_refl _)).mono hb5.size)
      clear hb5 HM HH
      go_wp2_with fail
      ((with_reducible refine (T2 _ (HW.out.own HB5.out)).mono ?_); rintro _ w6 ⟨rfl, hb6⟩)
      have HB6 := Lib.hid (sg.Below.next HB5.out hb6 (Nat.le_refl _))
      have HM6 := Lib.hid ((HM5.out.below hb6 (Nat.le_refl _)).mono hb6.size)
      have HH6 := Lib.hid ((HH5.out.below hb6 (Nat.le_refl _)).mono hb6.size)
      clear hb6 HM5 HH5
      go_wp2_with fail
      ((with_reducible refine (htc _ HB6.out).mono ?_); rintro _ w7 ⟨rfl, hb7⟩)
      have HB7 := Lib.hid (sg.Below.next HB6.out hb7 (Nat.le_refl _))
      have HM7 := Lib.hid ((HM6.out.below hb7 (Nat.le_refl _)).mono hb7.size)
      have HH7 := Lib.hid ((HH6.out.below hb7 (Nat.le_refl _)).mono hb7.size)
      clear hb7 HM6 HH6
      go_wp2_with fail
      ((with_reducible refine (T3 _ (HW.out.own HB7.out)).mono ?_); rintro _ w8 ⟨rfl, hb8⟩)
      have HB8 := Lib.hid (sg.Below.next HB7.out hb8 (Nat.le_refl _))
      have HM8 := Lib.hid ((HM7.out.below hb8 (Nat.le_refl _)).mono hb8.size)
      have HH8 := Lib.hid ((HH7.out.below hb8 (Nat.le_refl _)).mono hb8.size)
      clear hb8 HM7 HH7
      go_wp2_with fail
      ((with_reducible refine (T4 _ (HW.out.own HB8.out)).mono ?_); rintro _ w9 ⟨rfl, hb9⟩)
      have HB9 := Lib.hid (sg.Below.next HB8.out hb9 (Nat.le_refl _))
      have HM9 := Lib.hid ((HM8.out.below hb9 (Nat.le_refl _)).mono hb9.size)
      have HH9 := Lib.hid ((HH8.out.below hb9 (Nat.le_refl _)).mono hb9.size)
      clear hb9 HM8 HH8
      go_wp2_with fail
      ((with_reducible refine (R1 _ HB9.out).mono ?_); rintro _ w10 ⟨rfl, hb10⟩)
      have HB10 := Lib.hid (sg.Below.next HB9.out hb10 (Nat.le_refl _))
      have HM10 := Lib.hid ((HM9.out.below hb10 (Nat.le_refl _)).mono hb10.size)
      have HH10 := Lib.hid ((HH9.out.below hb10 (Nat.le_refl _)).mono hb10.size)
      clear hb10 HM9 HH9
      go_wp2_with fail
      ((with_reducible refine (rows_calls _ _ w10 HM10.out hsm (HW.out.own HB10.out)).mono ?_); rintro _ w11 ⟨rfl, hb11⟩)
      have HB11 := Lib.hid (sg.Below.next HB10.out hb11 (Nat.le_refl _))
      have HH11 := Lib.hid ((HH10.out.below hb11 (Nat.le_refl _)).mono hb11.size)
      clear hb11 HM10 HH10
      have hkw : wrap64 (k : Int) = (k : Int) := kw HKB.out
      have hkw2 : IntKind.i64.wrap (k : Int) = (k : Int) := (IntWalk.i64_left _).trans hkw
      go_wp2_with fail
      ((with_reducible refine (rows_calls _ _ w11 HH11.out hsh (HW.out.own HB11.out)).mono ?_); rintro _ w12 ⟨rfl, hb12⟩)
      have HB12 := Lib.hid (sg.Below.next HB11.out hb12 (Nat.le_refl _))
      clear hb12
      go_wp2_with fail
      go_ret
      exact ⟨rfl, HB12.out⟩

theorem reads (os : Os) {H : Type} (enc : TypeId × Value → H) : ∃ places, DataW.whole enc Tryz.prog ((World.laidAll Tryz.prog os lx.laid).forCall (fun _ _ => 0) ⟨#[], #[.string ⟨#[]⟩, .slice none 0 0, .slice none 0 0, .slice none 0 0], []⟩).memory Tryz.f9.params.toList Rows.lexTokensSpec.vars false (#[.string ⟨#[]⟩, .slice none 0 0, .slice none 0 0, .slice none 0 0] : Array Value).toList 8 = some ([.lit (.string []), .nil, .nil, .nil], [], places) :=
  ⟨[], by kernel_rfl⟩

set_option maxRecDepth 100000 in
theorem lifted (os : Os) (started : os.Started) (H : Type) (enc : TypeId × Value → H) (F : Stop.Interp) :
    ReturnsInHanded {} Tryz.checked os 9 .any ((Rows.OpenSpec.upto Rows.lexTokensSpec).preRow enc Tryz.prog Tryz.f9 Rows.lexTokensUptoRow.domain false Rows.lexTokensUptoRow.laid) (((Rows.OpenSpec.upto Rows.lexTokensSpec).at F).post enc Tryz.prog Tryz.f9 false true false false) := by
  obtain ⟨places, hx⟩ := reads os enc
  refine returnsInHanded_of_row (C := Tryz.checked) (s := Rows.OpenSpec.upto Rows.lexTokensSpec) law.own started (by kernel_rfl) Tryz.func9
    (witness_row_at (enc := enc) (C := Tryz.checked) false (World.laidAll Tryz.prog os lx.laid) #[.string ⟨#[]⟩, .slice none 0 0, .slice none 0 0, .slice none 0 0] (World.laidAll_os _ _ _) (by kernel_rfl) (by kernel_rfl) (by kernel_rfl)
      (OpenSpec.preRow_of_cond 8 hx (by kernel_rfl) (fun k hk => by cases hk; kernel_rfl) (by kernel_rfl) (lx.laid_met os _))) ?_
  intro W base args ds gs before hval0 hW _ hcond0 _ hL _ _
  have hcond := hcond0 _ rfl
  have hOps := lx.ops_of_laid hL
  have hval : ∀ (j : Nat) t v, Tryz.f9.params[j]? = some t → args[j]? = some v → Value.okWide Tryz.prog W .any base t v := hval0
  have hW' := hW
  obtain ⟨p, q, hA0, hV, rfl, _, _⟩ := hW
  have hA : DataW.TrodAll enc Tryz.prog W 0 (fun _ => true) true Tryz.f9.params.toList args.toList ds p := hA0
  rw [Tryz.params9] at hA hval
  obtain ⟨v0, vs0, d0, ds0, p0, q0, hargs, rfl, rfl, h0, r0⟩ := trodAll_cons hA
  obtain ⟨v1, vs1, d1, ds1, p1, q1, rfl, rfl, rfl, h1, r1⟩ := trodAll_cons r0
  obtain ⟨v2, vs2, d2, ds2, p2, q2, rfl, rfl, rfl, h2, r2⟩ := trodAll_cons r1
  obtain ⟨v3, vs3, d3, ds3, p3, q3, rfl, rfl, rfl, h3, r3⟩ := trodAll_cons r2
  obtain ⟨rfl, rfl, rfl⟩ := trodAll_nil r3
  obtain rfl : args = #[v0, v1, v2, v3] := by cases args; simp_all
  obtain ⟨rfl, rfl⟩ := trodVars_none hV
  obtain ⟨s, rfl, rfl, rfl, _⟩ := open_string Tryz.underlying9 (hval 0 9 v0 rfl rfl) h0
  obtain ⟨es, hes, hbk⟩ := open_bulk (hval 1 22 v1 rfl rfl) h1
  obtain ⟨bs, hbs⟩ := law.open_bytes (hval 2 25 v2 rfl rfl) h2
  obtain ⟨cs, hcs⟩ := law.open_bytes (hval 3 25 v3 rfl rfl) h3
  clear hL hcond0
  refine (walk s v1 es v2 v3 bs cs W hes (small_many hbk hcond) hbs hcs hOps).mono fun e W' ⟨he, hb⟩ => ⟨_, he, ?_⟩
  exact law.law_post rfl hW' rfl (by kernel_rfl) (by kernel_rfl) hb


theorem holds : Rows.LexTokensUptoSaid :=
  OpenClaim.holds_of_cond 9 Tryz.f9 rfl rfl rfl rfl rfl rfl rfl ⟨rfl, rfl, rfl, rfl, rfl⟩ rfl rfl rfl rfl rfl (by kernel_rfl) Tryz.func9 (by kernel_rfl)
    (of_decide_eq_true (by kernel_rfl)) (by unfold Func.isWrapper; first | (rw [if_pos (by decide +kernel)]; kernel_rfl) | (rw [if_neg (by decide +kernel)]; exact ⟨rfl, rfl⟩))
    (fun os started H enc _ F => by rw [OpenClaim.pre_eq_preRow]; exact lifted os started H enc F)

/-- The tied card of LexTokens, of arguments that are not too great for any machine. -/
theorem card : Rows.LexTokensUptoCardSaid :=
  Claim7.holds_tied_plain_at .later [] _ _ _ _ holds (fun _ h => by cases h) (by kernel_rfl) (fun _ h => by cases h) lexTokensUpto_row_tie rfl ⟨rfl, rfl⟩ (by kernel_rfl) rfl
    (fun f fn hf hfn => by
      obtain rfl : f = 9 := Option.some.inj ((show Tryz.prog.funcNamed "subeditor/subeditorlaw04.LexTokens" = some 9 by kernel_rfl).symm.trans hf) |>.symm
      obtain rfl : fn = Tryz.f9 := (Option.some.inj (Tryz.func9.symm.trans hfn)).symm
      exact ⟨by kernel_rfl, fun j t ht => by
        rw [Tryz.params9] at ht
        have hm := List.mem_toArray.1 (Array.mem_of_getElem? ht)
        have hall : (Tryz.f9.params.toList.all fun u => !Tryz.prog.wantsStandIn u) = true := by kernel_rfl
        rw [show Tryz.f9.params.toList = _ from congrArg Array.toList Tryz.params9] at hall
        exact (show Tryz.prog.wantsStandIn t = false by simpa using List.all_eq_true.1 hall t hm)⟩)
    (by kernel_rfl)
end Go.Proofs.YtmoamfcaokefiaaGreatDoor.lexTokens
