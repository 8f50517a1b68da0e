/-
  sign: decimal, exponent, Number, Escape: their contracts.
-/
import Derived.Test.YtmoamfcaokefiaaGreatDoorSgFns2
namespace Go.Proofs.YtmoamfcaokefiaaGreatDoor.sg
open Go.RowKit Go.Shelf
set_option linter.unusedVariables false

theorem pre_one (l : List UInt8) (a : Nat) (b : UInt8) : Lib.hasPrefix (l.drop a) [b] = Sg.at' (fun n => n == (b.toNat : Int)) l a := by
  unfold Sg.at'
  by_cases h : a < l.length
  · rw [Sg.drop_head h, decide_eq_true h, Bool.true_and]
    unfold Lib.hasPrefix
    rw [Bool.eq_iff_iff]
    simp only [List.isPrefixOf, Bool.and_true, beq_iff_eq]
    constructor
    · intro e; rw [← e]
    · intro e; exact UInt8.toNat_inj.1 (by omega)
  · rw [List.drop_eq_nil_of_le (by omega), decide_eq_false h, Bool.false_and]; rfl

set_option maxRecDepth 100000 in
set_option maxHeartbeats 2000000 in
theorem decimal_calls (s : ByteArray) (hs : s.size ≤ 140737488351232) (w : World) :
    Calls Tryz.prog 122 #[.string s] w fun e w' => e = .returned (.int .i64 (Sg.decimal s.data.toList : Nat)) ∧ w = w' := by
  have hr := digit_run w s hs
  have hrl := Sg.run_le Sg.cD s.data.toList
  have hb := Lib.hid (Sg.decimal_le s.data.toList)
  rw [lst_len] at hrl
  have HD := Lib.hid (show Sg.decimal s.data.toList = if Sg.at' (· == 46) s.data.toList (Sg.run Sg.cD s.data.toList) then (if Sg.run Sg.cD s.data.toList + Sg.run Sg.cD (s.data.toList.drop (Sg.run Sg.cD s.data.toList + 1)) = 0 then 0 else Sg.run Sg.cD s.data.toList + 1 + Sg.run Sg.cD (s.data.toList.drop (Sg.run Sg.cD s.data.toList + 1))) else Sg.run Sg.cD s.data.toList from rfl)
  obtain ⟨a, ha⟩ : ∃ a, Sg.run Sg.cD s.data.toList = a := ⟨_, rfl⟩
  rw [ha] at hr hrl HD
  clear ha
  have hle : (a : Int) ≤ (s.size : Int) := by omega
  have hle0 : (0 : Int) ≤ (a : Int) := by omega
  have hc := Tryz.strings_CutPrefix (s.extract a s.size) ⟨#[46]⟩ w
  rw [show (⟨#[46]⟩ : ByteArray).data.toList = [46] from rfl, extract_drop, pre_one] at hc
  change Calls _ _ _ _ (fun e w' => e = .returned (.tuple #[_, .bool (Sg.at' (· == 46) s.data.toList a)]) ∧ w' = w) at hc
  cases hv : Sg.at' (· == 46) s.data.toList a with
  | false =>
    rw [hv] at hc HD
    clear hv
    go_enter Tryz.func122, Tryz.ntmps122
    go_wp2_with fail
    ((with_reducible refine hr.mono ?_); rintro e w1 ⟨rfl, rfl⟩)
    go_wp2_with fail
    ((with_reducible refine hc.mono ?_); rintro e w1 ⟨rfl, rfl⟩)
    go_wp2_with fail
    go_ret
    exact ⟨by rw [HD.out]; rfl, rfl⟩
  | true =>
    have hlt : a < s.size := by have := Sg.at_lt hv; rwa [lst_len] at this
    have hp : Lib.hasPrefix (s.data.toList.drop a) [46] = true := by rw [pre_one]; exact hv
    rw [trim_true hp, hv, List.drop_drop] at hc
    simp only [List.length_cons, List.length_nil, Nat.zero_add] at hc
    rw [hv] at HD
    have hsz : (⟨(s.data.toList.drop (a + 1)).toArray⟩ : ByteArray).size ≤ 140737488351232 := by
      show (s.data.toList.drop (a + 1)).toArray.size ≤ _
      simp; omega
    have hr2 := digit_run w ⟨(s.data.toList.drop (a + 1)).toArray⟩ hsz
    rw [show ((⟨(s.data.toList.drop (a + 1)).toArray⟩ : ByteArray).data.toList) = s.data.toList.drop (a + 1) from by simp] at hr2
    have hrl2 := Sg.run_le Sg.cD (s.data.toList.drop (a + 1))
    rw [List.length_drop, lst_len] at hrl2
    obtain ⟨b, hb2⟩ : ∃ b, Sg.run Sg.cD (s.data.toList.drop (a + 1)) = b := ⟨_, rfl⟩
    rw [hb2] at hr2 hrl2 HD
    clear hb2 hp hv hsz
    have w1 : wrap64 ((a : Int) + (b : Int)) = ((a + b : Nat) : Int) := by rw [IntWalk.wrap64_in]; rfl; omega
    have w1' : IntKind.i64.wrap ((a : Int) + (b : Int)) = ((a + b : Nat) : Int) := (IntWalk.i64_left _).trans w1
    have w2 : wrap64 ((a : Int) + 1) = ((a + 1 : Nat) : Int) := by rw [IntWalk.wrap64_in]; rfl; omega
    have w2' : IntKind.i64.wrap ((a : Int) + 1) = ((a + 1 : Nat) : Int) := (IntWalk.i64_left _).trans w2
    have w3 : wrap64 (((a + 1 : Nat) : Int) + (b : Int)) = ((a + 1 + b : Nat) : Int) := by rw [IntWalk.wrap64_in]; rfl; omega
    have w3' : IntKind.i64.wrap (((a + 1 : Nat) : Int) + (b : Int)) = ((a + 1 + b : Nat) : Int) := (IntWalk.i64_left _).trans w3
    by_cases h0 : a + b = 0
    · have HX := Lib.hid (HD.out.trans ((if_pos rfl).trans (if_pos h0)))
      have t0 : (((a + b : Nat) : Int) == 0) = true := by rw [beq_iff_eq]; omega
      go_enter Tryz.func122, Tryz.ntmps122
      go_wp2_with fail
      ((with_reducible refine hr.mono ?_); rintro e w1 ⟨rfl, rfl⟩)
      go_wp2_with fail
      ((with_reducible refine hc.mono ?_); rintro e w1 ⟨rfl, rfl⟩)
      go_wp2_with fail
      ((with_reducible refine hr2.mono ?_); rintro e w1 ⟨rfl, rfl⟩)
      go_wp2_with fail
      go_ret
      exact ⟨by rw [HX.out]; rfl, rfl⟩
    · have HX := Lib.hid (HD.out.trans ((if_pos rfl).trans (if_neg h0)))
      have t0 : (((a + b : Nat) : Int) == 0) = false := by rw [beq_eq_false_iff_ne]; omega
      go_enter Tryz.func122, Tryz.ntmps122
      go_wp2_with fail
      ((with_reducible refine hr.mono ?_); rintro e w1 ⟨rfl, rfl⟩)
      go_wp2_with fail
      ((with_reducible refine hc.mono ?_); rintro e w1 ⟨rfl, rfl⟩)
      go_wp2_with fail
      ((with_reducible refine hr2.mono ?_); rintro e w1 ⟨rfl, rfl⟩)
      go_wp2_with fail
      go_ret
      exact ⟨by rw [HX.out]; rfl, rfl⟩

set_option maxRecDepth 100000 in
set_option maxHeartbeats 2000000 in
theorem exponent_calls (s : ByteArray) (hs : s.size ≤ 140737488351232) (w : World) :
    Calls Tryz.prog 123 #[.string s] w fun e w' => e = .returned (.int .i64 (Sg.exponent s.data.toList : Nat)) ∧ Below w.heap.size w w' := by
  have ha := fun w => of_at ⟨#[101, 69]⟩ _ tells_e w s 0 (Int.le_refl _)
  have hg := fun w B hB => of_atB ⟨#[43, 45]⟩ _ tells_sign w B hB s 1 (by decide)
  rw [show (0 : Int).toNat = 0 from rfl] at ha
  rw [show (1 : Int).toNat = 1 from rfl] at hg
  have HE := Lib.hid (show Sg.exponent s.data.toList = if Sg.at' (fun n => n == 101 || n == 69) s.data.toList 0 then (if Sg.run Sg.cD (s.data.toList.drop (Sg.signs s.data.toList)) = 0 then 0 else Sg.signs s.data.toList + Sg.run Sg.cD (s.data.toList.drop (Sg.signs s.data.toList))) else 0 from rfl)
  cases hv : Sg.at' (fun n => n == 101 || n == 69) s.data.toList 0 with
  | false =>
    rw [hv] at HE ha
    clear hv hg
    go_enter Tryz.func123, Tryz.ntmps123
    go_wp2_with fail
    ((with_reducible refine (of_calls _ _).mono ?_); rintro e w1 ⟨rfl, rfl⟩)
    go_wp2_with fail
    ((with_reducible refine (ha _).mono ?_); rintro e w1 ⟨rfl, rfl⟩)
    go_wp2_with fail
    go_ret
    exact ⟨by rw [HE.out]; rfl, below_of _ _⟩
  | true =>
    have hsl := Sg.signs_le s.data.toList hv
    rw [lst_len] at hsl
    have hsg : Sg.signs s.data.toList = if Sg.at' (fun n => n == 43 || n == 45) s.data.toList 1 then 2 else 1 := rfl
    rw [hv] at HE ha
    obtain ⟨k, hk⟩ : ∃ k, Sg.signs s.data.toList = k := ⟨_, rfl⟩
    rw [hk] at HE hsl hsg
    clear hk hv
    have hrl := Sg.run_le Sg.cD (s.data.toList.drop k)
    rw [List.length_drop, lst_len] at hrl
    have hr := fun w => digit_run w (s.extract k s.size) (ext_size _ _ hs)
    rw [extract_drop] at hr
    obtain ⟨d, hd⟩ : ∃ d, Sg.run Sg.cD (s.data.toList.drop k) = d := ⟨_, rfl⟩
    rw [hd] at HE hrl hr
    clear hd
    have b2 : Below w.heap.size w ((w.alloc (.cells #[.string ⟨#[101, 69]⟩] 9)).alloc (.cells #[.string ⟨#[43, 45]⟩] 9)) := (below_of w _).alloc (by simp) _
    have kle : (k : Int) ≤ (s.size : Int) := by omega
    have w1 : wrap64 ((k : Int) + (d : Int)) = ((k + d : Nat) : Int) := by rw [IntWalk.wrap64_in]; rfl; omega
    have w1' : IntKind.i64.wrap ((k : Int) + (d : Int)) = ((k + d : Nat) : Int) := (IntWalk.i64_left _).trans w1
    have fin : ∀ (q : Bool), Sg.at' (fun n => n == 43 || n == 45) s.data.toList 1 = q → True := fun _ _ => trivial
    cases hq : Sg.at' (fun n => n == 43 || n == 45) s.data.toList 1 with
    | true =>
      rw [hq] at hsg hg
      obtain rfl : k = 2 := hsg
      clear hq
      by_cases h0 : d = 0
      · have HX := Lib.hid (HE.out.trans ((if_pos rfl).trans (if_pos h0)))
        subst h0
        go_enter Tryz.func123, Tryz.ntmps123
        go_wp2_with fail
        ((with_reducible refine (of_calls _ _).mono ?_); rintro e w1 ⟨rfl, rfl⟩)
        go_wp2_with fail
        ((with_reducible refine (ha _).mono ?_); rintro e w1 ⟨rfl, rfl⟩)
        go_wp2_with fail
        ((with_reducible refine (of_calls _ _).mono ?_); rintro e w1 ⟨rfl, rfl⟩)
        go_wp2_with fail
        ((with_reducible refine (hg (w.alloc _) (w.heap.size + 1) (by rw [World.size_alloc])).mono ?_); rintro e w1 ⟨rfl, rfl⟩)
        go_wp2_with fail
        ((with_reducible refine (hr _).mono ?_); rintro e w1 ⟨rfl, rfl⟩)
        go_wp2_with fail
        go_ret
        exact ⟨by rw [HX.out]; rfl, b2⟩
      · have HX := Lib.hid (HE.out.trans ((if_pos rfl).trans (if_neg h0)))
        have t0 : ((d : Int) == 0) = false := by rw [beq_eq_false_iff_ne]; omega
        go_enter Tryz.func123, Tryz.ntmps123
        go_wp2_with fail
        ((with_reducible refine (of_calls _ _).mono ?_); rintro e w1 ⟨rfl, rfl⟩)
        go_wp2_with fail
        ((with_reducible refine (ha _).mono ?_); rintro e w1 ⟨rfl, rfl⟩)
        go_wp2_with fail
        ((with_reducible refine (of_calls _ _).mono ?_); rintro e w1 ⟨rfl, rfl⟩)
        go_wp2_with fail
        ((with_reducible refine (hg (w.alloc _) (w.heap.size + 1) (by rw [World.size_alloc])).mono ?_); rintro e w1 ⟨rfl, rfl⟩)
        go_wp2_with fail
        ((with_reducible refine (hr _).mono ?_); rintro e w1 ⟨rfl, rfl⟩)
        go_wp2_with fail
        go_ret
        exact ⟨by rw [HX.out]; rfl, b2⟩
    | false =>
      rw [hq] at hsg hg
      obtain rfl : k = 1 := hsg
      clear hq
      by_cases h0 : d = 0
      · have HX := Lib.hid (HE.out.trans ((if_pos rfl).trans (if_pos h0)))
        subst h0
        go_enter Tryz.func123, Tryz.ntmps123
        go_wp2_with fail
        ((with_reducible refine (of_calls _ _).mono ?_); rintro e w1 ⟨rfl, rfl⟩)
        go_wp2_with fail
        ((with_reducible refine (ha _).mono ?_); rintro e w1 ⟨rfl, rfl⟩)
        go_wp2_with fail
        ((with_reducible refine (of_calls _ _).mono ?_); rintro e w1 ⟨rfl, rfl⟩)
        go_wp2_with fail
        ((with_reducible refine (hg (w.alloc _) (w.heap.size + 1) (by rw [World.size_alloc])).mono ?_); rintro e w1 ⟨rfl, rfl⟩)
        go_wp2_with fail
        ((with_reducible refine (hr _).mono ?_); rintro e w1 ⟨rfl, rfl⟩)
        go_wp2_with fail
        go_ret
        exact ⟨by rw [HX.out]; rfl, b2⟩
      · have HX := Lib.hid (HE.out.trans ((if_pos rfl).trans (if_neg h0)))
        have t0 : ((d : Int) == 0) = false := by rw [beq_eq_false_iff_ne]; omega
        go_enter Tryz.func123, Tryz.ntmps123
        go_wp2_with fail
        ((with_reducible refine (of_calls _ _).mono ?_); rintro e w1 ⟨rfl, rfl⟩)
        go_wp2_with fail
        ((with_reducible refine (ha _).mono ?_); rintro e w1 ⟨rfl, rfl⟩)
        go_wp2_with fail
        ((with_reducible refine (of_calls _ _).mono ?_); rintro e w1 ⟨rfl, rfl⟩)
        go_wp2_with fail
        ((with_reducible refine (hg (w.alloc _) (w.heap.size + 1) (by rw [World.size_alloc])).mono ?_); rintro e w1 ⟨rfl, rfl⟩)
        go_wp2_with fail
        ((with_reducible refine (hr _).mono ?_); rintro e w1 ⟨rfl, rfl⟩)
        go_wp2_with fail
        go_ret
        exact ⟨by rw [HX.out]; rfl, b2⟩

set_option maxRecDepth 100000 in
set_option maxHeartbeats 2000000 in
theorem number_calls (s : ByteArray) (hs : s.size ≤ 140737488351232) (w : World) :
    Calls Tryz.prog 105 #[.string s] w fun e w' => e = .returned (.int .i64 (Sg.number s.data.toList : Nat)) ∧ Below w.heap.size w w' := by
  have hd := decimal_calls s hs w
  have hdl := Sg.decimal_le s.data.toList
  rw [lst_len] at hdl
  have HN := Lib.hid (show Sg.number s.data.toList = if Sg.decimal s.data.toList = 0 then 0 else Sg.decimal s.data.toList + Sg.exponent (s.data.toList.drop (Sg.decimal s.data.toList)) from rfl)
  obtain ⟨a, ha⟩ : ∃ a, Sg.decimal s.data.toList = a := ⟨_, rfl⟩
  rw [ha] at hd hdl HN
  clear ha
  by_cases h0 : a = 0
  · have HX := Lib.hid (HN.out.trans (if_pos h0))
    subst h0
    go_enter Tryz.func105, Tryz.ntmps105
    go_wp2_with fail
    ((with_reducible refine hd.mono ?_); rintro e w1 ⟨rfl, rfl⟩)
    go_wp2_with fail
    go_ret
    exact ⟨by rw [HX.out]; rfl, Below.refl _ _⟩
  · have HX := Lib.hid (HN.out.trans (if_neg h0))
    have t0 : ((a : Int) == 0) = false := by rw [beq_eq_false_iff_ne]; omega
    have hx := exponent_calls (s.extract a s.size) (ext_size _ _ hs) w
    rw [extract_drop] at hx
    have hxl := Sg.exponent_le (s.data.toList.drop a)
    rw [List.length_drop, lst_len] at hxl
    obtain ⟨b, hb⟩ : ∃ b, Sg.exponent (s.data.toList.drop a) = b := ⟨_, rfl⟩
    rw [hb] at hx hxl HX
    clear hb
    have hle : (a : Int) ≤ (s.size : Int) := by omega
    have w1 : wrap64 ((a : Int) + (b : Int)) = ((a + b : Nat) : Int) := by rw [IntWalk.wrap64_in]; rfl; omega
    have w1' : IntKind.i64.wrap ((a : Int) + (b : Int)) = ((a + b : Nat) : Int) := (IntWalk.i64_left _).trans w1
    go_enter Tryz.func105, Tryz.ntmps105
    go_wp2_with fail
    ((with_reducible refine hd.mono ?_); rintro e w1 ⟨rfl, rfl⟩)
    go_wp2_with fail
    ((with_reducible refine hx.mono ?_); rintro e w1 ⟨rfl, hb1⟩)
    go_wp2_with fail
    go_ret
    exact ⟨by rw [HX.out]; rfl, hb1⟩

theorem pre_two (l : List UInt8) (x y : UInt8) : Lib.hasPrefix l [x, y] = (Sg.at' (fun n => n == (x.toNat : Int)) l 0 && Sg.at' (fun n => n == (y.toNat : Int)) l 1) := by
  have h0 := pre_one l 0 x
  have h1 := pre_one l 1 y
  rw [← h1]
  rw [List.drop_zero] at h0
  rw [← h0]
  cases l with
  | nil => rfl
  | cons a r => simp [Lib.hasPrefix, List.isPrefixOf]

set_option maxRecDepth 100000 in
set_option maxHeartbeats 2000000 in
theorem escape_calls (s : ByteArray) (hs : s.size ≤ 140737488351232) (w : World) :
    Calls Tryz.prog 126 #[.string s] w fun e w' => e = .returned (.int .i64 (Sg.escape s.data.toList : Nat)) ∧ Below w.heap.size w w' := by
  have hp := fun w => Tryz.strings_HasPrefix s ⟨#[92]⟩ w
  have hp2 := fun w => Tryz.strings_HasPrefix s ⟨#[92, 117]⟩ w
  have e1 := pre_one s.data.toList 0 92
  rw [List.drop_zero] at e1
  have e2 := pre_two s.data.toList 92 117
  rw [show (⟨#[92]⟩ : ByteArray).data.toList = [92] from rfl, e1] at hp
  rw [show (⟨#[92, 117]⟩ : ByteArray).data.toList = [92, 117] from rfl, e2] at hp2
  change ∀ w, Calls _ _ _ _ (fun e w' => e = .returned (.bool (Sg.at' (· == 92) s.data.toList 0)) ∧ w' = w) at hp
  change ∀ w, Calls _ _ _ _ (fun e w' => e = .returned (.bool (Sg.at' (· == 92) s.data.toList 0 && Sg.at' (· == 117) s.data.toList 1)) ∧ w' = w) at hp2
  have ha := fun w => of_at ⟨#[34, 92, 47, 98, 102, 110, 114, 116]⟩ _ tells_esc w s 1 (by decide)
  rw [show (1 : Int).toNat = 1 from rfl] at ha
  have HE := Lib.hid (show Sg.escape s.data.toList = if Sg.at' (· == 92) s.data.toList 0 then (if Sg.at' Sg.cE s.data.toList 1 then 2 else if Sg.at' (· == 117) s.data.toList 1 && decide (4 ≤ Sg.run Sg.cH (s.data.toList.drop 2)) then 6 else 0) else 0 from rfl)
  cases h1 : Sg.at' (· == 92) s.data.toList 0 with
  | false =>
    rw [h1] at HE
    have HX := Lib.hid (HE.out.trans (if_neg (by decide)))
    simp only [h1] at hp
    clear e1 e2 h1 hp2 ha HE
    go_enter Tryz.func126, Tryz.ntmps126
    go_wp2_with fail
    ((with_reducible refine (hp _).mono ?_); rintro e w1 ⟨rfl, rfl⟩)
    go_wp2_with fail
    go_ret
    exact ⟨by rw [HX.out]; rfl, Below.refl _ _⟩
  | true =>
    rw [h1] at HE
    have HX := Lib.hid (HE.out.trans (if_pos rfl))
    simp only [h1, Bool.true_and] at hp hp2
    clear e1 e2 HE
    cases h2 : Sg.at' Sg.cE s.data.toList 1 with
    | true =>
      rw [h2] at HX
      have HY := Lib.hid (HX.out.trans (if_pos rfl))
      simp only [h2] at ha
      clear h1 h2 HX hp2
      go_enter Tryz.func126, Tryz.ntmps126
      go_wp2_with fail
      ((with_reducible refine (hp _).mono ?_); rintro e w1 ⟨rfl, rfl⟩)
      go_wp2_with fail
      ((with_reducible refine (of_calls _ _).mono ?_); rintro e w1 ⟨rfl, rfl⟩)
      go_wp2_with fail
      ((with_reducible refine (ha _).mono ?_); rintro e w1 ⟨rfl, rfl⟩)
      go_wp2_with fail
      go_ret
      exact ⟨by rw [HY.out]; rfl, below_of _ _⟩
    | false =>
      rw [h2] at HX
      have HY := Lib.hid (HX.out.trans (if_neg (by decide)))
      simp only [h2] at ha
      clear HX h2
      cases h3 : Sg.at' (· == 117) s.data.toList 1 with
      | false =>
        rw [h3] at HY
        have HZ := Lib.hid (HY.out.trans (if_neg (by simp)))
        simp only [h3] at hp2
        clear h1 h3 HY
        go_enter Tryz.func126, Tryz.ntmps126
        go_wp2_with fail
        ((with_reducible refine (hp _).mono ?_); rintro e w1 ⟨rfl, rfl⟩)
        go_wp2_with fail
        ((with_reducible refine (of_calls _ _).mono ?_); rintro e w1 ⟨rfl, rfl⟩)
        go_wp2_with fail
        ((with_reducible refine (ha _).mono ?_); rintro e w1 ⟨rfl, rfl⟩)
        go_wp2_with fail
        ((with_reducible refine (hp2 _).mono ?_); rintro e w1 ⟨rfl, rfl⟩)
        go_wp2_with fail
        go_ret
        exact ⟨by rw [HZ.out]; rfl, below_of _ _⟩
      | true =>
        rw [h3, Bool.true_and] at HY
        simp only [h3] at hp2
        have hlt := Sg.at_lt h3
        rw [lst_len] at hlt
        have hx := fun w => hexes_calls (s.extract 2 s.size) (ext_size _ _ hs) w
        simp only [extract_drop] at hx
        have hrl := Sg.run_le Sg.cH (s.data.toList.drop 2)
        rw [List.length_drop, lst_len] at hrl
        obtain ⟨d, hd⟩ : ∃ d, Sg.run Sg.cH (s.data.toList.drop 2) = d := ⟨_, rfl⟩
        rw [hd] at HY hrl
        simp only [hd] at hx
        clear hd h1 h3
        have hle : (2 : Int) ≤ (s.size : Int) := by omega
        by_cases h4 : 4 ≤ d
        · have HZ := Lib.hid (HY.out.trans (if_pos (decide_eq_true h4)))
          have t4 : decide ((4 : Int) ≤ (d : Int)) = true := decide_eq_true (by omega)
          clear HY
          go_enter Tryz.func126, Tryz.ntmps126
          go_wp2_with fail
          ((with_reducible refine (hp _).mono ?_); rintro e w1 ⟨rfl, rfl⟩)
          go_wp2_with fail
          ((with_reducible refine (of_calls _ _).mono ?_); rintro e w1 ⟨rfl, rfl⟩)
          go_wp2_with fail
          ((with_reducible refine (ha _).mono ?_); rintro e w1 ⟨rfl, rfl⟩)
          go_wp2_with fail
          ((with_reducible refine (hp2 _).mono ?_); rintro e w1 ⟨rfl, rfl⟩)
          go_wp2_with fail
          ((with_reducible refine (hx _).mono ?_); rintro e w1 ⟨rfl, hb1⟩)
          go_wp2_with fail
          go_ret
          exact ⟨by rw [HZ.out]; rfl, Below.next (below_of _ _) hb1 (Nat.le_refl _)⟩
        · have HZ := Lib.hid (HY.out.trans (if_neg (by simpa using h4)))
          have t4 : decide ((4 : Int) ≤ (d : Int)) = false := decide_eq_false (by omega)
          clear HY
          go_enter Tryz.func126, Tryz.ntmps126
          go_wp2_with fail
          ((with_reducible refine (hp _).mono ?_); rintro e w1 ⟨rfl, rfl⟩)
          go_wp2_with fail
          ((with_reducible refine (of_calls _ _).mono ?_); rintro e w1 ⟨rfl, rfl⟩)
          go_wp2_with fail
          ((with_reducible refine (ha _).mono ?_); rintro e w1 ⟨rfl, rfl⟩)
          go_wp2_with fail
          ((with_reducible refine (hp2 _).mono ?_); rintro e w1 ⟨rfl, rfl⟩)
          go_wp2_with fail
          ((with_reducible refine (hx _).mono ?_); rintro e w1 ⟨rfl, hb1⟩)
          go_wp2_with fail
          go_ret
          exact ⟨by rw [HZ.out]; rfl, Below.next (below_of _ _) hb1 (Nat.le_refl _)⟩
end Go.Proofs.YtmoamfcaokefiaaGreatDoor.sg
