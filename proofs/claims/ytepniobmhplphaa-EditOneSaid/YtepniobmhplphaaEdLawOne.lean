/-
  subeditorlaw02.EditOne: for every input it returns true, and the arguments read as they did. No condition.
-/
import Derived.Test.YtepniobmhplphaaEdRefRight
import Derived.Deep.RegionHeld3
import Derived.SizedLaws
namespace Go.Proofs.Ytepniobmhplphaa.editOne
open Go.RowKit Go.ChangeShapes Go.WideShapes Go.ChangeAt Go.ChangeMaps
open ed
set_option linter.unusedVariables false


theorem app_toList (a b : ByteArray) : (a ++ b).data.toList = a.data.toList ++ b.data.toList := by simp
theorem ext_toList (s : ByteArray) (a b : Nat) : (s.extract a b).data.toList = (s.data.toList.take b).drop a := by
  rw [ByteArray.data_extract, Array.toList_extract, List.extract_eq_take_drop, List.drop_take]
theorem ba_ext {a b : ByteArray} (h : a.data.toList = b.data.toList) : a = b := by
  cases a; cases b; congr; exact Array.toList_inj.1 h

theorem com_symm : ∀ l m : List UInt8, com l m = com m l
  | [], m => by cases m <;> rfl
  | a :: r, [] => rfl
  | a :: r, b :: t => by
    simp only [com]
    by_cases h : a = b
    · subst h; simp [com_symm r t]
    · rw [if_neg h, if_neg (fun e => h e.symm)]

/-- Of what is put in: the end that both have in common is all that stands behind the front. -/
theorem com_ends (a b x : List UInt8) (n : Nat) (hn : n = com (a ++ b) (a ++ x ++ b)) : com ((a ++ b).drop n).reverse ((a ++ x ++ b).drop n).reverse = (a ++ b).length - n := by
  have h1 : a.length ≤ n := by
    rw [hn]
    refine com_max _ _ _ ?_ (by simp) (by simp)
    simp [List.append_assoc]
  have h2 := com_le (a ++ b) (a ++ x ++ b)
  rw [← hn] at h2
  have h3 := com_le ((a ++ b).drop n).reverse ((a ++ x ++ b).drop n).reverse
  rw [List.length_reverse, List.length_drop] at h3
  refine Nat.le_antisymm h3.1 ?_
  refine com_max _ _ _ ?_ (by simp) (by simp; omega)
  obtain ⟨j, hj⟩ : ∃ j, n = a.length + j := ⟨n - a.length, by omega⟩
  have e1 : (a ++ b).drop n = b.drop j := by rw [hj, List.drop_append]; simp
  have hjb : j ≤ b.length := by simp at h2; omega
  have e2 : (a ++ x ++ b).drop n = (x ++ b).drop j := by rw [hj, List.append_assoc, List.drop_append]; simp
  have e3 : ((x ++ b).drop j).drop x.length = b.drop j := by rw [List.drop_drop, Nat.add_comm, List.drop_append]; simp
  obtain ⟨y, hy⟩ : b.drop j <:+ (x ++ b).drop j := by rw [← e3]; exact List.drop_suffix _ _
  have e4 : (a ++ b).length - n = (b.drop j).reverse.length := by rw [List.length_reverse, ← e1, List.length_drop]
  rw [e1, e2, ← hy, e4, List.reverse_append, List.take_left, List.take_length]
theorem one_eq (a b x : ByteArray) (hx : 0 < x.size) : ∃ n : Nat, n ≤ (a ++ b).size ∧ diffF (a ++ b) (a ++ x ++ b) = [⟨(n : Int), (n : Int), (a ++ x ++ b).extract n (n + x.size)⟩] ∧
    diffF (a ++ x ++ b) (a ++ b) = [⟨(n : Int), (n : Int) + x.size, ⟨#[]⟩⟩] ∧ n + x.size ≤ (a ++ x ++ b).size := by
  have hs1 : (a ++ b).size = a.size + b.size := ByteArray.size_append
  have hs2 : (a ++ x ++ b).size = a.size + x.size + b.size := by rw [ByteArray.size_append, ByteArray.size_append]
  have hne : ¬ (a ++ b) = (a ++ x ++ b) := fun e => by have := congrArg ByteArray.size e; omega
  have hne2 : ¬ (a ++ x ++ b) = (a ++ b) := fun e => hne e.symm
  have hf := com_symm (a ++ b).data.toList (a ++ x ++ b).data.toList
  have hf' : frontF (a ++ x ++ b) (a ++ b) = frontF (a ++ b) (a ++ x ++ b) := hf.symm
  have hle := frontF_le (a ++ b) (a ++ x ++ b)
  have hb1 : backF (a ++ b) (a ++ x ++ b) = (a ++ b).size - frontF (a ++ b) (a ++ x ++ b) := by
    unfold backF endF
    rw [ext_toList, ext_toList, ← size_toList (a ++ b), ← size_toList (a ++ x ++ b), List.take_length, List.take_length]
    simp only [app_toList]
    exact com_ends a.data.toList b.data.toList x.data.toList _ (by unfold frontF; simp only [app_toList])
  have hb2 : backF (a ++ x ++ b) (a ++ b) = (a ++ b).size - frontF (a ++ b) (a ++ x ++ b) := by
    rw [← hb1]
    unfold backF endF
    rw [hf', com_symm]
  unfold diffF
  rw [if_neg hne, if_neg hne2, hb1, hb2, hf']
  obtain ⟨n, hn⟩ : ∃ n, frontF (a ++ b) (a ++ x ++ b) = n := ⟨_, rfl⟩
  rw [hn] at hle ⊢
  generalize (a ++ b) = s at *
  generalize (a ++ x ++ b) = t at *
  have k1 : (s.size : Int) - ((s.size - n : Nat) : Int) = (n : Int) := by omega
  have k2 : (t.size : Int) - ((s.size - n : Nat) : Int) = (n : Int) + x.size := by omega
  have k3 : t.size - (s.size - n) = n + x.size := by omega
  have e : s.extract n (s.size - (s.size - n)) = ⟨#[]⟩ := by
    refine ba_ext ?_
    rw [ext_toList, show s.size - (s.size - n) = n by omega, List.drop_eq_nil_of_le (by rw [List.length_take]; omega)]
  rw [k1, k2, k3, e]
  exact ⟨n, hle.1, rfl, rfl, by omega⟩

abbrev S6 (N : Nat) (W0 : World) (g o g' o' : Nat) (e e' : Ed) (u : World) : Prop :=
  (u.cell? ⟨g, o, none⟩ = some (.int .i64 e.f) ∧ u.cell? ⟨g, o + 1, none⟩ = some (.int .i64 e.t) ∧ u.cell? ⟨g, o + 2, none⟩ = some (.string e.x) ∧
  u.cell? ⟨g', o', none⟩ = some (.int .i64 e'.f) ∧ u.cell? ⟨g', o' + 1, none⟩ = some (.int .i64 e'.t) ∧ u.cell? ⟨g', o' + 2, none⟩ = some (.string e'.x)) ∧ Below N W0 u
theorem S6.step {N : Nat} {W0 : World} {g o g' o' : Nat} {e e' : Ed} {u u' : World} (h : S6 N W0 g o g' o' e e' u) (hb : Below u.heap.size u u') (hN : N ≤ W0.heap.size) : S6 N W0 g o g' o' e e' u' := by
  obtain ⟨⟨h1, h2, h3, h4, h5, h6⟩, hB⟩ := h
  have lt : ∀ (p : Addr) v, u.cell? p = some v → u'.cell? p = some v := fun p v hp => (hb.cell (World.block_lt_of_cell? u p hp)).trans hp
  exact ⟨⟨lt _ _ h1, lt _ _ h2, lt _ _ h3, lt _ _ h4, lt _ _ h5, lt _ _ h6⟩, hB.trans (hb.mono (Nat.le_trans hN hB.size))⟩

theorem drew_bel {w w' : World} (h : ∃ nq, w' = w.drewN nq) : Below w.heap.size w w' := by obtain ⟨nq, rfl⟩ := h; exact bel_drewN (Below.refl _ _) _
theorem EdsAt.one {u : World} {g o cap : Nat} {f t : Int} {x : ByteArray} {R : Prop} {N : Nat} {W0 : World} (h : (u.cell? ⟨g, o, none⟩ = some (.int .i64 f) ∧ u.cell? ⟨g, o + 1, none⟩ = some (.int .i64 t) ∧ u.cell? ⟨g, o + 2, none⟩ = some (.string x) ∧ R) ∧ Below N W0 u) :
    EdsAt (g + 1) u (.slice (some ⟨g, o, none⟩) 1 cap) [⟨f, t, x⟩] := by
  refine ⟨_, cap, rfl, by simp [maxLen], fun i e he => ?_⟩
  obtain rfl : i = 0 := by have := (List.getElem?_eq_some_iff.1 he).1; simp at this; exact this
  simp at he
  subst he
  exact ⟨g, o, rfl, Nat.lt_succ_self _, by simpa using h.1.1, by simpa using h.1.2.1, by simpa using h.1.2.2.1⟩

set_option maxRecDepth 100000 in
set_option maxHeartbeats 4000000 in
theorem walk (a b x : ByteArray) (ha : a.size ≤ reachBytes) (hb : b.size ≤ reachBytes) (hx : x.size ≤ reachBytes) (w : World) :
    Calls Try.prog 10 #[.string a, .string b, .string x] w fun e w' => e = .returned (.bool true) ∧ Below w.heap.size w w' := by
  unfold reachBytes at ha hb hx
  have w1 : wrap64 ((a.size : Int) + (b.size : Int)) = (a.size : Int) + b.size := IntWalk.wrap64_in _ (by omega)
  have w2 : wrap64 ((a.size : Int) + (b.size : Int) + (x.size : Int)) = (a.size : Int) + b.size + x.size := IntWalk.wrap64_in _ (by omega)
  by_cases h200 : (200 : Int) < (a.size : Int) + b.size + x.size
  · have t0 : decide ((200 : Int) < (a.size : Int) + b.size + x.size) = true := decide_eq_true h200
    go_enter Try.func10, Try.ntmps10
    go_wp2_with fail
    ((with_reducible refine (known_calls _).mono ?_); rintro e w1 ⟨rfl, hb1⟩)
    go_wp2_with fail
    go_ret
    exact ⟨rfl, hb1⟩
  · have t0 : decide ((200 : Int) < (a.size : Int) + b.size + x.size) = false := decide_eq_false h200
    by_cases hx0 : x.size = 0
    · have hxe : x = ⟨#[]⟩ := ba_ext (List.eq_nil_of_length_eq_zero (by rw [size_toList]; exact hx0))
      subst hxe
      go_enter Try.func10, Try.ntmps10
      go_wp2_with fail
      ((with_reducible refine (known_calls _).mono ?_); rintro e w1 ⟨rfl, hb1⟩)
      go_wp2_with fail
      go_ret
      exact ⟨rfl, hb1⟩
    · have hxe : x.toList.isEmpty = false := by
        rw [Lib.toList_data]
        cases hl : x.data.toList with
        | nil => rw [← size_toList, hl] at hx0; exact absurd rfl hx0
        | cons a r => rfl
      have hxp : 0 < x.size := by omega
      obtain ⟨n, hn, hd1, hd2, hn2⟩ := one_eq a b x hxp
      have hc1 := diff_calls (a ++ b) (a ++ x ++ b) (by rw [ByteArray.size_append]; omega) (by rw [ByteArray.size_append, ByteArray.size_append]; omega)
      have hc2 := diff_calls (a ++ x ++ b) (a ++ b) (by rw [ByteArray.size_append, ByteArray.size_append]; omega) (by rw [ByteArray.size_append]; omega)
      rw [hd1] at hc1
      rw [hd2] at hc2
      have hsz : ((a ++ x ++ b).extract n (n + x.size)).size = x.size := by rw [ByteArray.size_extract]; omega
      have hss : (a ++ b).size = a.size + b.size := ByteArray.size_append
      have hrt : rightF [⟨(n : Int), (n : Int), (a ++ x ++ b).extract n (n + x.size)⟩] (((a ++ b).size : Nat) : Int) = true := by
        simp [rightF, rightG, bad]; omega
      have H1 := Lib.hid hc1; have H2 := Lib.hid hc2; have HSZ := Lib.hid hsz; have HRT := Lib.hid hrt
      have c1 : ¬ 9223372036854775807 < a.size + b.size := by omega
      have c2 : a.size + x.size ≤ 9223372036854775807 := by omega
      have c3 : (a ++ x).size + b.size ≤ 9223372036854775807 := by rw [ByteArray.size_append]; omega
      clear hc1 hc2 hsz hrt hd1 hd2 hx0
      go_enter Try.func10, Try.ntmps10
      go_wp2_with fail
      ((with_reducible refine (H1.out _).mono ?_); rintro e w1 ⟨v, rfl, hv, hb1⟩)
      go_wp2_with fail
      ((with_reducible refine (H2.out _).mono ?_); rintro e w2 ⟨v', rfl, hv', hb2⟩)
      have hv2 := hv.next hb2
      have HV := Lib.hid hv2
      obtain ⟨ao, cap, rfl, _, hc⟩ := hv2
      obtain ⟨g, o, rfl, hg, d0, d1, d2⟩ := hc 0 _ rfl
      obtain ⟨ao, cap', rfl, _, hc'⟩ := hv'
      obtain ⟨g', o', rfl, hg', d0', d1', d2'⟩ := hc' 0 _ rfl
      simp only [Nat.zero_mul, Nat.add_zero] at d0 d1 d2 d0' d1' d2'
      clear hc hc'
      obtain ⟨X, hX⟩ : ∃ X, (a ++ x ++ b).extract n (n + x.size) = X := ⟨_, rfl⟩
      rw [hX] at d2
      have HX := Lib.hid hX
      have hXs : X.size = x.size := by rw [← hX]; exact HSZ.out
      have hXi : ((X.size : Int) == (x.size : Int)) = true := by rw [hXs]; simp
      clear hX
      obtain ⟨T, hT⟩ : ∃ T : Int, (n : Int) + x.size = T := ⟨_, rfl⟩
      rw [hT] at d1'
      have w5 : wrap64 (T - (n : Int)) = (x.size : Int) := by rw [IntWalk.wrap64_in _ (by omega)]; omega
      have w6 : IntKind.i64.wrap (T - (n : Int)) = (x.size : Int) := (IntWalk.i64_left _).trans w5
      have HT := Lib.hid hT
      clear hT
      go_wp2_with fail
      go_region_held3 (fun u => (u.cell? ⟨g, o, none⟩ = some (.int .i64 (n : Int)) ∧ u.cell? ⟨g, o + 1, none⟩ = some (.int .i64 (n : Int)) ∧ u.cell? ⟨g, o + 2, none⟩ = some (.string X) ∧ u.cell? ⟨g', o', none⟩ = some (.int .i64 (n : Int)) ∧ u.cell? ⟨g', o' + 1, none⟩ = some (.int .i64 T) ∧ u.cell? ⟨g', o' + 2, none⟩ = some (.string ⟨#[]⟩)) ∧ Below w2.heap.size w2 u) (first | assumption | exact ⟨⟨d0, d1, d2, d0', d1', d2'⟩, (Below.refl _ _).drew⟩ | exact S6.step (e := ⟨(n : Int), (n : Int), X⟩) (e' := ⟨(n : Int), T, ⟨#[]⟩⟩) (by assumption) (by assumption) (Nat.le_refl _)) (first | (go_at_call 12; refine (known_calls _).mono ?_; rintro e w3 ⟨rfl, hb3⟩) | (go_at_call 16; refine (refRight_calls _ [⟨(n : Int), (n : Int), X⟩] _ _ _ (EdsAt.one (by assumption))).mono ?_; rintro e w4 ⟨rfl, hb4⟩; replace hb4 := drew_bel hb4))
      go_wp2_with fail
      rename_i hHeld
      have hrt := HRT.out
      rw [HX.out, hss, Int.natCast_add] at hrt
      rw [hrt]
      go_ret
      exact ⟨rfl, Below.step (Below.step hb1 hb2) hHeld.2⟩


set_option maxRecDepth 100000 in
theorem lifted (os : Os) (started : os.Started) (H : Type) (enc : TypeId × Value → H) :
    ReturnsInHanded {} Try.checked os 10 .any (Rows.editOneSpec.pre6 enc Try.prog Try.f10 Rows.editOneRow.domain false) (Rows.editOneSpec.post enc Try.prog Try.f10 false true false false) := by
  refine returnsInHanded_of_change_sized (C := Try.checked) law.own started (by kernel_rfl) Try.func10
    (ChangeSpec.witness6 (enc := enc) (C := Try.checked) false ⟨#[], #[.string ⟨#[]⟩, .string ⟨#[]⟩, .string ⟨#[]⟩], []⟩ 8 (by kernel_rfl) (by kernel_rfl) (by kernel_rfl) (by kernel_rfl)) ?_
  intro W base args ds gs before hval0 hW _ hsize0 _
  have hsize : (DataW.weightsEach Try.prog (Try.f10.params.toList ++ _) (ds ++ gs)).all (· ≤ reachBytes) = true := hsize0
  have hval : ∀ (j : Nat) t v, Try.f10.params[j]? = some t → args[j]? = some v → Value.okWide Try.prog W .any base t v := hval0
  have hW' := hW
  obtain ⟨p, q, hA0, hV, rfl, _, _⟩ := hW
  have hA : DataW.TrodAll enc Try.prog W 0 (fun _ => true) true Try.f10.params.toList args.toList ds p := hA0
  rw [Try.params10] at hA hval hsize
  obtain ⟨v0, vs0, d0, ds0, p0, q0, hargs, rfl, rfl, h0, r0⟩ := trodAll_cons hA
  obtain ⟨v1, vs1, d1, ds1, p1, q1, rfl, rfl, rfl, h1, r1⟩ := trodAll_cons r0
  obtain ⟨v2, vs2, d2, ds2, p2, q2, rfl, rfl, rfl, h2, r2⟩ := trodAll_cons r1
  obtain ⟨rfl, rfl, rfl⟩ := trodAll_nil r2
  obtain rfl : args = #[v0, v1, v2] := by cases args; simp_all
  obtain ⟨rfl, rfl⟩ := trodVars_none hV
  obtain ⟨a, rfl, rfl, rfl, _⟩ := open_string Try.underlying9 (hval 0 9 v0 rfl rfl) h0
  obtain ⟨b, rfl, rfl, rfl, _⟩ := open_string Try.underlying9 (hval 1 9 v1 rfl rfl) h1
  obtain ⟨x, rfl, rfl, rfl, _⟩ := open_string Try.underlying9 (hval 2 9 v2 rfl rfl) h2
  have ha := sized_string hsize (j := 0) (t := 9) rfl rfl
  have hb := sized_string hsize (j := 1) (t := 9) rfl rfl
  have hx := sized_string hsize (j := 2) (t := 9) rfl rfl
  rw [size_toList] at ha hb hx
  refine (walk a b x ha hb hx W).mono fun e W' ⟨he, hb⟩ => ⟨_, he, ?_⟩
  exact law.law_post rfl hW' rfl (by kernel_rfl) (by kernel_rfl) hb

/-- EditOne, for every input. -/
theorem holds : Rows.EditOneSaid :=
  OpenClaim.holds_of_wide 10 Try.f10 rfl rfl rfl rfl rfl rfl rfl ⟨rfl, rfl, rfl, rfl, rfl⟩ rfl rfl rfl rfl rfl (by kernel_rfl) Try.func10 (by kernel_rfl)
    (of_decide_eq_true (by kernel_rfl)) (by unfold Func.isWrapper; first | (rw [if_pos (by decide +kernel)]; kernel_rfl) | (rw [if_neg (by decide +kernel)]; exact ⟨rfl, rfl⟩))
    (fun os started H enc _ => lifted os started H enc)
end Go.Proofs.Ytepniobmhplphaa.editOne
