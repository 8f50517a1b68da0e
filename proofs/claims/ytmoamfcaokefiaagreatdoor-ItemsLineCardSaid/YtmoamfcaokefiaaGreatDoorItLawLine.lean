/-
  subeditorlaw05.ItemsLine: for every input it returns true, and the arguments read as they did. No condition.
-/
import Derived.Test.YtmoamfcaokefiaaGreatDoorItAll
import Derived.Test.YtmoamfcaokefiaaGreatDoorLxSource
import Derived.Test.YtmoamfcaokefiaaGreatDoorItLineM
import Derived.Test.YtmoamfcaokefiaaGreatDoorItSame
import Derived.Test.YtmoamfcaokefiaaGreatDoorCards
import Derived.Test.YtmoamfcaokefiaaGreatDoorTie
import Derived.SevenTiedAt
namespace Go.Proofs.YtmoamfcaokefiaaGreatDoor.itemsLine
open Go.RowKit Go.ChangeShapes Go.WideShapes Go.ChangeAt Go.ChangeMaps
open sg (OpsAt lst_len)
open lx
set_option linter.unusedVariables false

open it
theorem sum_as (l : List Lx.Tok) : sizeT (l.map asTk) = Lx.size l := by
  unfold sizeT Lx.size
  rw [List.map_map]
  congr 1
theorem tokens_sum (s : ByteArray) : Lx.size (tokensF s.data.toList (utf.checkF s)).1 ≤ s.size := by
  have h1 := Lx.size_le Lx.start s.data.toList
  rw [lst_len] at h1
  unfold tokensF
  split
  · exact Nat.zero_le _
  · split
    · exact Nat.zero_le _
    · split
      · exact h1
      · exact Nat.zero_le _
theorem err_part (v : Value) (s : ByteArray) (l : List Lx.Tok) (e at' : Int) (w : World) (hw : OpsAt w) (h0 : e ≠ 0)
    (hsc : Calls Tryz.prog 13 #[v] w fun e w' => e = .returned (.string s) ∧ Below w.heap.size w w')
    (hrt : ∀ w, Calls Tryz.prog 12 #[.string s] w fun e' w' => ∃ v, e' = .returned (.tuple #[v, .int .i64 e, .int .i64 at']) ∧ w'.ownsRow w.heap.size 24 2 v l.length (tokCells l) ∧ Below w.heap.size w w') :
    Calls Tryz.prog 4 #[v] w fun e W' => e = .returned (.bool true) ∧ Below w.heap.size w W' := by
  have HW := Lib.hid hw
  have e0 : (e == 0) = false := beq_eq_false_iff_ne.2 h0
  have e1 : (e != 0) = true := bne_iff_ne.2 h0
  clear hw
  go_enter Tryz.func4, Tryz.ntmps4
  go_wp2_with fail
  ((with_reducible refine hsc.mono ?_); rintro _ w2 ⟨rfl, hb2⟩)
  have HB2 := Lib.hid hb2
  clear hb2
  go_wp2_with fail
  ((with_reducible refine (hrt _).mono ?_); rintro _ w3 ⟨v3, rfl, ho3, hb3⟩)
  have HB3 := Lib.hid (sg.Below.next HB2.out hb3 (Nat.le_refl _))
  obtain ⟨a3, l3, c3, rfl⟩ := own_slice ho3
  clear hb3 ho3
  go_wp2_with fail
  ((with_reducible refine (it.known_calls _ (HW.out.own HB3.out)).mono ?_); rintro _ w4 ⟨rfl, hb4⟩)
  have HB4 := Lib.hid (sg.Below.next HB3.out hb4 (Nat.le_refl _))
  clear hb4
  go_wp2_with fail
  go_ret
  exact ⟨rfl, HB4.out⟩
/-- What a source's tokens are. -/
structure Told (s : ByteArray) (l : List Lx.Tok) : Prop where
  ok : tokensF s.data.toList (utf.checkF s) = (l, 0, 0)
  size : s.size ≤ 300
  len : l.length ≤ 300
  sum : sizeT (l.map asTk) ≤ 300
  kinds : ∀ t ∈ l, 1 ≤ t.1
theorem meas {k n : Nat} (h : k + 1 ≤ n) : n - (intOf (.int .i64 ((k + 1 : Nat) : Int))).toNat < n - (intOf (.int .i64 (k : Int))).toNat := by
  show n - (((k + 1 : Nat) : Int)).toNat < n - ((k : Nat) : Int).toNat
  omega
theorem wk {k : Nat} (h : k ≤ 300) : wrap64 ((k : Int) + 1) = ((k + 1 : Nat) : Int) := by rw [IntWalk.wrap64_in]; rfl; omega
/-- What a source's line is. -/
structure LineIs (ts tm : List Tk) (z : ByteArray) (ll ml : Nat) : Prop where
  l1 : ts.length = ll
  l2 : tm.length = ml
  b1 : ll ≤ 300
  b2 : ml ≤ 600
  s1 : sizeT ts ≤ 300
  s2 : sizeT tm ≤ 600
  m1 : manyT ts ≤ 600
  m2 : manyT tm ≤ 1200
  f1 : ∀ t ∈ ts, Fits t
  f2 : ∀ t ∈ tm, Fits t
  z1 : (⟨(lineU (ts.filter (fun t => !idleB t.1)) ts.length).toArray⟩ : ByteArray) = z
  z2 : (⟨(lineU (tm.filter (fun t => !idleB t.1)) tm.length).toArray⟩ : ByteArray) = z
  no : notesU tm = []
  fe : tm.filter (fun t => !idleB t.1) = ts.filter (fun t => !idleB t.1)
  rl : (runsU tm).length = (runsU ts).length
set_option maxRecDepth 100000 in
set_option maxHeartbeats 8000000 in
theorem ok_walk (v : Value) (s z : ByteArray) (l m : List Lx.Tok) (ts tm : List Tk) (hts : l.map asTk = ts) (htm : m.map asTk = tm) (w : World) (hw : OpsAt w)
    (hsc : Calls Tryz.prog 13 #[v] w fun e w' => e = .returned (.string s) ∧ Below w.heap.size w w')
    (hrt : ∀ w, Calls Tryz.prog 12 #[.string s] w fun e' w' => ∃ v, e' = .returned (.tuple #[v, .int .i64 0, .int .i64 0]) ∧ w'.ownsRow w.heap.size 24 2 v l.length (tokCells l) ∧ Below w.heap.size w w')
    (hrm : ∀ w, Calls Tryz.prog 12 #[.string z] w fun e' w' => ∃ v, e' = .returned (.tuple #[v, .int .i64 0, .int .i64 0]) ∧ w'.ownsRow w.heap.size 24 2 v m.length (tokCells m) ∧ Below w.heap.size w w')
    (hl : LineIs ts tm z l.length m.length) :
    Calls Tryz.prog 4 #[v] w fun e W' => e = .returned (.bool true) ∧ Below w.heap.size w W' := by
  have HW := Lib.hid hw; have HT := Lib.hid hl; have HTS := Lib.hid hts; have HTM := Lib.hid htm
  clear hw hl hts htm
  go_enter Tryz.func4, Tryz.ntmps4
  go_wp2_with fail
  ((with_reducible refine hsc.mono ?_); rintro _ w2 ⟨rfl, hb2⟩)
  have HB2 := Lib.hid hb2
  clear hb2
  go_wp2_with fail
  ((with_reducible refine (hrt _).mono ?_); rintro _ w3 ⟨v3, rfl, ho3, hb3⟩)
  have HB3 := Lib.hid (sg.Below.next HB2.out hb3 (Nat.le_refl _))
  have htk := own_tks ho3 (by have := HT.out.b1; unfold maxLen; omega)
  rw [HTS.out] at htk
  obtain ⟨a3, c3, rfl, hc3⟩ := own_len ho3
  have hli := line_calls _ ts w3 htk HT.out.f1 (by have := HT.out.m1; omega) (HW.out.own HB3.out)
  rw [HT.out.z1] at hli
  have HTK := Lib.hid htk; have HC3 := Lib.hid hc3
  clear hb3 ho3 htk hc3
  go_wp2_with fail
  ((with_reducible refine hli.mono ?_); rintro _ w4 ⟨rfl, hb4⟩)
  have HB4 := Lib.hid (sg.Below.next HB3.out hb4 (Nat.le_refl _))
  have HTK4 := Lib.hid ((HTK.out.below hb4 (Nat.le_refl _)).mono hb4.size)
  clear hb4 hli
  go_wp2_with fail
  ((with_reducible refine (hrm _).mono ?_); rintro _ w5 ⟨v5, rfl, ho5, hb5⟩)
  have HB5 := Lib.hid (sg.Below.next HB4.out hb5 (Nat.le_refl _))
  have htk5 := (HTK4.out.below hb5 (Nat.le_refl _)).mono hb5.size
  have htm5 := own_tks ho5 (by have := HT.out.b2; unfold maxLen; omega)
  rw [HTM.out] at htm5
  obtain ⟨a5, c5, rfl, hc5⟩ := own_len ho5
  have hit := items_calls a3 c3 ts w5 (by rw [HT.out.l1]; exact htk5) (by rw [HT.out.l1]; exact HC3.out) (by have := HT.out.s1; omega) (by have := HT.out.l1; have := HT.out.b1; omega)
  rw [HT.out.l1] at hit
  have HTK5 := Lib.hid htk5; have HTM5 := Lib.hid htm5; have HC5 := Lib.hid hc5
  clear hb5 ho5 htk5 htm5 hc5
  go_wp2_with fail
  ((with_reducible refine hit.mono ?_); rintro _ w6 ⟨nv, ov, nvs, rfl, hon, hoo, hNN, hb6⟩)
  have HB6 := Lib.hid (sg.Below.next HB5.out hb6 (Nat.le_refl _))
  have htm6 := (HTM5.out.below hb6 (Nat.le_refl _)).mono hb6.size
  have hit6 := items_calls a5 c5 tm w6 (by rw [HT.out.l2]; exact htm6) (by rw [HT.out.l2]; exact HC5.out) (by have := HT.out.s2; omega) (by have := HT.out.l2; have := HT.out.b2; omega)
  rw [HT.out.l2] at hit6
  obtain ⟨oa, oc, rfl, _⟩ := own_len hoo
  obtain ⟨na, nl, nc, rfl⟩ := own_slice hon
  have HOO := Lib.hid hoo; have HNN := Lib.hid hNN; have HTM6 := Lib.hid htm6
  clear hb6 hoo hNN hon htm6 hit
  go_wp2_with fail
  ((with_reducible refine hit6.mono ?_); rintro _ w7 ⟨nv7, ov7, nvs7, rfl, hon7, hoo7, hNN7, hb7⟩)
  have HB7 := Lib.hid (sg.Below.next HB6.out hb7 (Nat.le_refl _))
  have HTM7 := Lib.hid ((HTM6.out.below hb7 (Nat.le_refl _)).mono hb7.size)
  have HR7 := Lib.hid hb7
  obtain ⟨oa7, oc7, rfl, _⟩ := own_len hoo7
  obtain ⟨na7, nl7, nc7, rfl⟩ := own_slice hon7
  have HOO7 := Lib.hid hoo7; have HNN7 := Lib.hid hNN7
  rw [HT.out.rl]
  have hrl : (runsU ts).length ≤ 300 := by have := runsU_len ts; have := HT.out.l1; have := HT.out.b1; omega
  obtain ⟨N, hN⟩ : ∃ N, (runsU ts).length = N := ⟨_, rfl⟩
  rw [hN] at hrl ⊢
  have q1 : ((N : Int) == (N : Int)) = true := beq_self_eq_true _
  have q2 : ((N : Int) != (N : Int)) = false := by simp
  have HN := Lib.hid hN; have HRL := Lib.hid hrl
  clear hb7 hoo7 hNN7 hon7 hit6 hN hrl
  go_wp2_with fail
  go_loopw [14] (fun i wr => ∃ k : Nat, k ≤ N ∧ i = .int .i64 (k : Int) ∧ Below w7.heap.size w7 wr) (fun i wr => N - (intOf i).toNat)
  case atStart => exact ⟨0, Nat.zero_le _, rfl, Below.refl _ _⟩
  case round =>
    obtain ⟨k, hk, rfl, hb⟩ := hrel
    by_cases hlt : k < N
    · obtain ⟨x, hx⟩ : ∃ x, (runsU ts)[k]? = some x := ⟨_, List.getElem?_eq_getElem (by rw [HN.out]; exact hlt)⟩
      obtain ⟨y, hy⟩ : ∃ y, (runsU tm)[k]? = some y := ⟨_, List.getElem?_eq_getElem (by rw [HT.out.rl, HN.out]; exact hlt)⟩
      obtain ⟨g, _, hg, hgl, _, c0, c1, _⟩ := item_get (n := 0) HOO.out HNN.out k x hx
      obtain ⟨g7, _, hg7, hgl7, _, e0, e1, _⟩ := item_get (n := 0) HOO7.out HNN7.out k y hy
      subst hg hg7
      rw [← heads_same HT.out.fe k x y hx hy] at e0 e1
      obtain ⟨⟨K, T⟩, hKT⟩ : ∃ t : Tk, x.l.headD (0, ⟨#[]⟩) = t := ⟨_, rfl⟩
      rw [hKT] at c0 c1 e0 e1
      have d0 : wr.cell? ⟨g, k * 4, none⟩ = some (.int .i64 K) := (hb.cell (p := ⟨g, _, none⟩) (Nat.lt_of_lt_of_le hgl HR7.out.size)).trans ((HR7.out.cell (p := ⟨g, _, none⟩) hgl).trans c0)
      have d1 : wr.cell? ⟨g, k * 4 + 1, none⟩ = some (.string T) := (hb.cell (p := ⟨g, _, none⟩) (Nat.lt_of_lt_of_le hgl HR7.out.size)).trans ((HR7.out.cell (p := ⟨g, _, none⟩) hgl).trans c1)
      have d2 : wr.cell? ⟨g7, k * 4, none⟩ = some (.int .i64 K) := (hb.cell (p := ⟨g7, _, none⟩) hgl7).trans e0
      have d3 : wr.cell? ⟨g7, k * 4 + 1, none⟩ = some (.string T) := (hb.cell (p := ⟨g7, _, none⟩) hgl7).trans e1
      have hlt1 : (k : Int) < (N : Int) := by omega
      have hk1l : k + 1 ≤ N := hlt
      have HK := Lib.hid (show k ≤ 300 by have := HRL.out; omega)
      have HB := Lib.hid hb
      clear hb c0 c1 e0 e1 hKT hx hy hgl hgl7 hlt
      go_wp2_with fail
      go_region
      go_wp2_with fail
      exact ⟨⟨k + 1, hk1l, by rw [wk HK.out], HB.out.drew⟩, by rw [wk HK.out]; exact meas hk1l⟩
    · obtain rfl : k = N := by omega
      have hge : decide ((k : Int) < (k : Int)) = false := by simp
      have HB8 := Lib.hid (sg.Below.next HB7.out hb (Nat.le_refl _))
      have htm8 := (HTM7.out.below hb (Nat.le_refl _)).mono hb.size
      have HTM8 := Lib.hid htm8
      clear hb htm8 hlt
      go_wp2_with fail
      ((with_reducible refine (it.known_calls _ (HW.out.own HB8.out)).mono ?_); rintro _ w9 ⟨rfl, hb9⟩)
      have HB9 := Lib.hid (sg.Below.next HB8.out hb9 (Nat.le_refl _))
      have htm9 := (HTM8.out.below hb9 (Nat.le_refl _)).mono hb9.size
      have hl9 := line_calls _ tm w9 htm9 HT.out.f2 (by have := HT.out.m2; omega) (HW.out.own HB9.out)
      rw [HT.out.z2] at hl9
      have HTM9 := Lib.hid htm9
      clear hb9 htm9
      go_wp2_with fail
      ((with_reducible refine hl9.mono ?_); rintro _ w10 ⟨rfl, hb10⟩)
      have HB10 := Lib.hid (sg.Below.next HB9.out hb10 (Nat.le_refl _))
      have hn10 := notes_calls _ tm w10 _ (HTM9.out.below hb10 (Nat.le_refl _)) (by have := HT.out.s2; omega) (by have := HT.out.l2; have := HT.out.b2; omega)
      rw [HT.out.no] at hn10
      clear hb10 hl9
      go_wp2_with fail
      ((with_reducible refine hn10.mono ?_); rintro _ w11 ⟨nu, rfl, hou, hb11⟩)
      have HB11 := Lib.hid (sg.Below.next HB10.out hb11 (Nat.le_refl _))
      obtain ⟨ua, uc, rfl, _⟩ := own_len hou
      clear hou hb11
      go_wp2_with fail
      go_ret
      exact ⟨rfl, HB11.out⟩
set_option maxRecDepth 100000 in
set_option maxHeartbeats 8000000 in
theorem ok_part2 (v : Value) (s : ByteArray) (l : List Lx.Tok) (w : World) (hw : OpsAt w)
    (hsc : Calls Tryz.prog 13 #[v] w fun e w' => e = .returned (.string s) ∧ Below w.heap.size w w')
    (hrt : ∀ w, Calls Tryz.prog 12 #[.string s] w fun e' w' => ∃ v, e' = .returned (.tuple #[v, .int .i64 0, .int .i64 0]) ∧ w'.ownsRow w.heap.size 24 2 v l.length (tokCells l) ∧ Below w.heap.size w w')
    (ht : Told s l) :
    Calls Tryz.prog 4 #[v] w fun e W' => e = .returned (.bool true) ∧ Below w.heap.size w W' := by
  obtain ⟨z, hz⟩ : ∃ z, (⟨(lineU ((l.map asTk).filter (fun t => !idleB t.1)) (l.map asTk).length).toArray⟩ : ByteArray) = z := ⟨_, rfl⟩
  obtain ⟨hzs, m, hm, hmf, hmn, hmz⟩ := line_told ht.size ht.ok z hz
  have hml := tok_len z hm
  have hms : sizeT (m.map asTk) ≤ 600 := by
    have := tokens_sum z
    rw [hm] at this
    rw [sum_as]
    exact Nat.le_trans this hzs
  have hlm := ht.len
  have hls := ht.sum
  have e1 := manyT_eq (l.map asTk)
  have e2 := manyT_eq (m.map asTk)
  rw [List.length_map] at e1 e2
  exact ok_walk v s z l m _ _ rfl rfl w hw hsc hrt (fun w => rtokens_as z (by omega) w m 0 0 hm)
    ⟨List.length_map .., List.length_map .., hlm, by omega, hls, hms, by omega, by omega, fits_told (by have := ht.size; omega) ht.ok, fits_told (by omega) hm, hz, hmz, hmn, hmf, by rw [runs_count, runs_count, hmf]⟩

theorem walk (v : Value) (bs : List Int) (w : World) (hv : law.BytesAt w v bs) (hw : OpsAt w) :
    Calls Tryz.prog 4 #[v] w fun e W' => e = .returned (.bool true) ∧ Below w.heap.size w W' := by
  obtain ⟨s, hs⟩ : ∃ s, srcF bs = s := ⟨_, rfl⟩
  have hss := srcF_size bs
  have hsc := source_calls v bs w hv
  rw [hs] at hss hsc
  clear hs hv
  obtain ⟨l, e, at', he⟩ : ∃ l e at', tokensF s.data.toList (utf.checkF s) = (l, e, at') := ⟨_, _, _, rfl⟩
  have hrt := fun w => rtokens_as s (by omega) w l e at' he
  by_cases h0 : e = 0
  · subst h0
    obtain ⟨hok, hlx, rfl⟩ := told_ok he
    have hln := len_tokens s (by omega)
    rw [he] at hln
    simp only at hln
    have hsz := tokens_sum s
    rw [he] at hsz
    simp only at hsz
    have htl := tok_len s he
    exact ok_part2 v s l w hw hsc hrt ⟨he, by omega, by omega, by rw [sum_as]; omega, wf_kinds (Lx.wf_of_lex hlx)⟩
  · exact err_part v s l e at' w hw h0 hsc hrt

set_option maxRecDepth 100000 in
theorem lifted (os : Os) (started : os.Started) (H : Type) (enc : TypeId × Value → H) :
    ReturnsInHanded {} Tryz.checked os 4 .any (fun w args => (Rows.itemsLineSpec.pre enc Tryz.prog Tryz.f4 Rows.itemsLineRow.domain false w args ∧ laidMetH Tryz.prog lx.laid w) ∧ sizedMet enc Tryz.prog Tryz.f4 (OpenSpec.ofChange Rows.itemsLineSpec) false w args) (Rows.itemsLineSpec.post enc Tryz.prog Tryz.f4 false true false false) := by
  refine returnsInHanded_of_change_and (C := Tryz.checked) (X := fun w _ => laidMetH Tryz.prog lx.laid w) (fun _ _ _ hh h => h.of_heap hh) law.own started (by kernel_rfl) Tryz.func4
    (ChangeSpec.witness_shaped (enc := enc) (C := Tryz.checked) (os := os) (X := fun w _ => laidMetH Tryz.prog lx.laid w) false (World.laidAll Tryz.prog os lx.laid) #[.slice none 0 0] 8 (World.laidAll_os _ _ _) (World.shaped_of_ZipB (by kernel_rfl) (by kernel_rfl)) (by kernel_rfl) (by kernel_rfl) (by kernel_rfl) (lx.laid_met os _)) ?_
  intro W base args ds gs before hval0 hW _ hsize0 hL _
  have hsize : (DataW.weightsEach Tryz.prog (Tryz.f4.params.toList ++ _) (ds ++ gs)).all (· ≤ reachBytes) = true := hsize0
  have hOps := lx.ops_of_laid hL
  have hval : ∀ (j : Nat) t v, Tryz.f4.params[j]? = some t → args[j]? = some v → Value.okWide Tryz.prog W .any base t v := hval0
  have hW' := hW
  obtain ⟨p, q, hA0, hV, rfl, _, _⟩ := hW
  have hA : DataW.TrodAll enc Tryz.prog W 0 (fun _ => true) true Tryz.f4.params.toList args.toList ds p := hA0
  rw [Tryz.params4] at hA hval
  obtain ⟨v0, d0, rfl, rfl, h0⟩ := trodAll_one hA
  obtain ⟨rfl, rfl⟩ := trodVars_none hV
  obtain ⟨bs, hbs⟩ := law.open_bytes (hval 0 25 v0 rfl rfl) h0
  clear hL
  refine (walk v0 bs W hbs hOps).mono fun e W' ⟨he, hb⟩ => ⟨_, he, ?_⟩
  exact law.law_post rfl hW' rfl (by kernel_rfl) (by kernel_rfl) hb

/-- ItemsLine, for every input. -/
theorem holds : Rows.ItemsLineSaid :=
  OpenClaim.holds_of_wide 4 Tryz.f4 rfl rfl rfl rfl rfl rfl rfl ⟨rfl, rfl, rfl, rfl, rfl⟩ rfl rfl rfl rfl rfl (by kernel_rfl) Tryz.func4 (by kernel_rfl)
    (of_decide_eq_true (by kernel_rfl)) (by unfold Func.isWrapper; first | (rw [if_pos (by decide +kernel)]; kernel_rfl) | (rw [if_neg (by decide +kernel)]; exact ⟨rfl, rfl⟩))
    (fun os started H enc _ => lifted os started H enc)

/-- The tied card of ItemsLine. -/
theorem card : Rows.ItemsLineCardSaid :=
  Claim7.holds_tied_plain_at .later [] [.data, .data, .pinned] true Rows.itemsLineCard.stood.harness false
    holds (fun _ h => by cases h) (by kernel_rfl) (fun _ h => by cases h) itemsLine_row_tie rfl ⟨rfl, rfl⟩ (by kernel_rfl) rfl
    (fun f fn hf hfn => by
      obtain rfl : f = 4 := Option.some.inj ((show Tryz.prog.funcNamed "subeditor/subeditorlaw05.ItemsLine" = some 4 by kernel_rfl).symm.trans hf) |>.symm
      obtain rfl : fn = Tryz.f4 := (Option.some.inj (Tryz.func4.symm.trans hfn)).symm
      exact ⟨by kernel_rfl, fun j t ht => by
        rw [Tryz.params4] at ht
        have hm := List.mem_toArray.1 (Array.mem_of_getElem? ht)
        have hall : (Tryz.f4.params.toList.all fun u => !Tryz.prog.wantsStandIn u) = true := by kernel_rfl
        rw [show Tryz.f4.params.toList = _ from congrArg Array.toList Tryz.params4] at hall
        exact (show Tryz.prog.wantsStandIn t = false by simpa using List.all_eq_true.1 hall t hm)⟩)
    (by kernel_rfl)
end Go.Proofs.YtmoamfcaokefiaaGreatDoor.itemsLine
