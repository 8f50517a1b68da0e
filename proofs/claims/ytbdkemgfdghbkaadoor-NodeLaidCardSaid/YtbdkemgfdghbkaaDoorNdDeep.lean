/-
  node: fold at numbers; Deep.
-/
import Derived.Test.YtbdkemgfdghbkaaDoorNdCopy
import Derived.Test.YtbdkemgfdghbkaaDoorNdRef2
namespace Go.Proofs.YtbdkemgfdghbkaaDoor.nd
open Go.RowKit sx ed
set_option linter.unusedVariables false

theorem infoI : (Tryd.prog.info? 3).map (fun i => (i.zero, i.size, i.bytes)) = some (some (.int .i64 0), 1, 8) := by kernel_rfl
def nums (l : List Nat) : List Value := l.map fun (n : Nat) => .int .i64 (n : Int)
theorem nums_snoc (l : List Nat) (n : Nat) : nums (l ++ [n]) = nums l ++ [.int .i64 (n : Int)] := by simp [nums]
def maxL (l : List Nat) : Nat := l.foldl max 0
theorem maxL_snoc (l : List Nat) (n : Nat) : maxL (l ++ [n]) = max (maxL l) n := by simp [maxL]
def Fo.deeps (f : Fo) : List Nat := f.toL.map Nd.deep
theorem Fo.deeps_fold : ∀ (f : Fo) (a : Nat), f.deeps.foldl max a = max a f.deep
  | .nil, a => by simp [Fo.deeps, Fo.toL, Fo.deep]
  | .cons k t kids r, a => by
    have := Fo.deeps_fold r (max a (1 + kids.deep))
    simp only [Fo.deeps, Fo.toL, List.map_cons, List.foldl_cons, Fo.deep, Nd.deep] at this ⊢
    rw [this]; omega
theorem Fo.deeps_max (f : Fo) : maxL f.deeps = f.deep := by unfold maxL; rw [Fo.deeps_fold]; omega
theorem Fo.deeps_len (f : Fo) : f.deeps.length = f.len := by simp [Fo.deeps, Fo.toL_len]
theorem Fo.toL_app : ∀ f g : Fo, (f.app g).toL = f.toL ++ g.toL
  | .nil, _ => rfl
  | .cons k t kids r, g => by simp [Fo.app, Fo.toL, Fo.toL_app r g]
theorem Fo.deeps_snoc {f : Fo} {i : Nat} {x : Nd} (h : f.get? i = some x) : (f.take (i + 1)).deeps = (f.take i).deeps ++ [x.deep] := by
  rw [Fo.take_snoc h, Fo.deeps, Fo.toL_app]; simp [Fo.deeps, Fo.toL]

set_option maxRecDepth 100000 in
set_option maxHeartbeats 4000000 in
theorem growI_calls (m : Nat) (hm : m * 8 ≤ 140737488355328) (w : World) :
    Calls Tryd.prog 58 #[.slice none 0 0, .int .i64 (m : Int)] w fun e w' => ∃ v, e = .returned v ∧ w'.ownsRow w.heap.size 3 1 v 0 [] ∧ Below w.heap.size w w' := by
  by_cases h0 : m = 0
  · subst h0
    go_enter Tryd.func58, Tryd.ntmps58
    go_wp2_with fail
    go_ret
    exact ⟨_, rfl, World.ownsRow_nil _ _ _ _, Below.refl _ _⟩
  · obtain ⟨i0, hi, hz0, hz1, hz2⟩ := info_parts infoI
    have hm1 : 0 < m := by omega
    have hp : (0 : Int) < (m : Int) := by omega
    have hn : ¬ ((m : Int) < 0) := by omega
    have hr := Lib.run_append_nil_zeros (P := Tryd.prog) w 25 3 25 3 i0 _ .i64 .i64 Tryd.underlying25 Tryd.underlying3 hi hz0 m hm1 (by rw [hz1]; omega) (by omega) (by rw [hz2]; omega)
    have hge := grownCap_ge w m 0 3
    have hle := grownCap_le_maxLen w m 0 3 (by unfold maxLen; omega)
    obtain ⟨c, hc⟩ : ∃ c, grownCap w m 0 3 = c := ⟨_, rfl⟩
    rw [hc] at hr hge hle
    have HR := Lib.hid hr; have HLE := Lib.hid hle
    clear hr hle hc h0
    go_enter Tryd.func58, Tryd.ntmps58
    go_wp2_with (at_builtin; refine Lib.wpList_append_run _ rfl _ _ 25 3 rfl _ _ rfl rfl _ _ HR.out ?_)
    go_ret
    refine ⟨_, rfl, ?_, ((Below.refl _ w).drew).alloc (by simp) _⟩
    refine ⟨rfl, .inr ⟨w.heap.size, c, _, rfl, Nat.le_refl _, heap_alloc_new w.drew _, Nat.zero_le _, HLE.out, ?_, rfl⟩⟩
    simp [size_zeroCells]
    omega

set_option maxRecDepth 100000 in
set_option maxHeartbeats 4000000 in
theorem tellD_calls (N : Nat) (v : Value) (l : List Nat) (k : Int) (t : ByteArray) (ao : Option Addr) (n cap : Nat) (w : World) (hl : ∀ d ∈ l, d ≤ 1000000) (hown : w.ownsRow N 3 1 v l.length (nums l)) :
    Calls Tryd.prog 46 #[.agg #[.int .i64 k, .string t, .slice ao n cap], v] w fun e w' => e = .returned (.int .i64 ((1 + maxL l : Nat) : Int)) ∧ Below w.heap.size w w' := by
  obtain ⟨ao1, cap1, rfl, hlc⟩ := own_len' hown
  have hmx : ∀ j, maxL (l.take j) ≤ 1000000 := by
    intro j
    have key : ∀ (r : List Nat) (a : Nat), a ≤ 1000000 → (∀ d ∈ r, d ≤ 1000000) → r.foldl max a ≤ 1000000 := by
      intro r
      induction r with
      | nil => intro a ha _; exact ha
      | cons d r ih => intro a ha hr; exact ih _ (by have := hr d (by simp); omega) (fun e he => hr e (by simp [he]))
    exact key _ 0 (by omega) (fun d hd => hl d (List.mem_of_mem_take hd))
  have hm : l.length ≤ maxLen := by
    rcases hown.2 with ⟨_, h0⟩ | ⟨g, cap', cur, hv, h2, h3, h4⟩
    · rw [h0]; exact Nat.zero_le _
    · exact Nat.le_trans h4.1 h4.2.1
  unfold maxLen at hm
  obtain ⟨m, hmm⟩ : ∃ m, l.length = m := ⟨_, rfl⟩
  rw [hmm] at hown hm hlc ⊢
  have HO := Lib.hid hown; have HM := Lib.hid hmm; have HMX := Lib.hid hmx
  have hb0 : Below w.heap.size w (w.alloc (.cells #[.int .i64 k, .string t, .slice ao n cap] 24)) := (Below.refl _ w).alloc (Nat.le_refl _) _
  have HB0 := Lib.hid hb0
  clear hown hmm hmx hb0
  go_enter Tryd.func46, Tryd.ntmps46
  go_wp2_with fail
  obtain ⟨W0, hW0⟩ : ∃ W0, w.alloc (.cells #[.int .i64 k, .string t, .slice ao n cap] 24) = W0 := ⟨_, rfl⟩
  have hO2 := HO.out.alloc (.cells #[.int .i64 k, .string t, .slice ao n cap] 24)
  rw [hW0] at HB0 hO2 ⊢
  clear hW0
  have HO2 := Lib.hid hO2
  clear hO2
  go_loop [5, 10] (fun a i => ∃ j c : Nat, j ≤ m ∧ i = .int .i64 (j : Int) ∧ a = .int .i64 (c : Int) ∧ c = maxL (l.take j)) (fun _ i => m - (intOf i).toNat)
  case atStart => exact ⟨0, 0, Nat.zero_le _, rfl, rfl, by simp [maxL]⟩
  case round =>
    obtain ⟨j, c, hj, rfl, rfl, hc⟩ := hrel
    by_cases hlt : j < m
    · obtain ⟨d, hd⟩ : ∃ d, l[j]? = some d := ⟨_, List.getElem?_eq_getElem (by rw [HM.out]; exact hlt)⟩
      have hlt1 : (j : Int) < (m : Int) := by omega
      have htk : l.take (j + 1) = l.take j ++ [d] := by rw [List.take_add_one, hd]; rfl
      have hms := maxL_snoc (l.take j) d
      rw [← htk, ← hc] at hms
      have hcell : ∃ g, ao1 = some ⟨g, 0, none⟩ ∧ W0.cell? ⟨g, j, none⟩ = some (.int .i64 (d : Int)) := by
        rcases HO2.out.2 with ⟨_, h0⟩ | ⟨g, cap', cur, hv, h2, h3, h4⟩
        · omega
        · cases hv
          refine ⟨g, rfl, ?_⟩
          have := HO2.out.cells (g := g) rfl j (.int .i64 (d : Int)) (by simp [nums, hd])
          rw [addr_add, Nat.zero_add] at this
          exact this
      obtain ⟨g, rfl, hcl⟩ := hcell
      have HMS := Lib.hid hms
      clear hms htk hd hc
      rcases Nat.le_total c d with hcd | hcd
      all_goals
        go_wp2_with fail
        exact ⟨⟨j + 1, max c d, by omega, rfl, by simp <;> omega, HMS.out.symm⟩, by simp [intOf]; omega⟩
    · obtain rfl : j = m := by omega
      have hge : decide ((j : Int) < (j : Int)) = false := by simp
      have hc9 : c ≤ 1000000 := by rw [hc]; exact HMX.out _
      rw [List.take_of_length_le (by rw [HM.out]; exact Nat.le_refl _)] at hc
      have HC := Lib.hid hc
      clear hc
      go_wp2_with fail
      go_ret
      exact ⟨ret_int (by have := HC.out; omega), HB0.out⟩

def FoldIOk (x : Nd) : Prop := x.count ≤ 1000000 → ∀ (w : World) (v : Value), NdAt (Lt w.heap.size) w x v →
  Calls Tryd.prog 45 #[v, .func (.func 46) #[] #[]] w fun e w' => e = .returned (.int .i64 (x.deep : Int)) ∧ Below w.heap.size w w'

theorem Fo.deeps_le (f : Fo) : ∀ d ∈ f.deeps, d ≤ f.count := by
  intro d hd
  unfold Fo.deeps at hd
  obtain ⟨x, hx, rfl⟩ := List.mem_map.1 hd
  obtain ⟨i, hi⟩ := List.getElem?_of_mem hx
  rw [Fo.toL_get] at hi
  have := Fo.count_get hi
  have := Nd.deep_le x
  omega

set_option maxRecDepth 100000 in
set_option maxHeartbeats 8000000 in
theorem foldI_ok (x : Nd) : FoldIOk x := by
  refine Nd.induct (p := FoldIOk) (fun x hp hct w v hu => ?_) x
  obtain ⟨s, rfl, hs⟩ := hu
  obtain ⟨ao, cap, rfl, hm⟩ := hs.slice
  obtain ⟨k, t, f⟩ := x
  dsimp only at hs hm hp ⊢
  unfold maxLen at hm
  have hct' := hct
  simp only [Nd.count] at hct'
  have hfl : f.len ≤ 1000000 := by have := Fo.len_le f; omega
  have hdl := Fo.deeps_le f
  obtain ⟨i0, hi, hz0, hz1, hz2⟩ := info_parts infoI
  obtain ⟨W0, hW0⟩ : ∃ W0, w.alloc (.cells #[.int .i64 k, .string t, .slice ao f.len cap] 24) = W0 := ⟨_, rfl⟩
  have hb0 : Below w.heap.size w W0 := by rw [← hW0]; exact (Below.refl _ w).alloc (Nat.le_refl _) _
  have hk1 : Blk W0 w.heap.size 24 #[.int .i64 k, .string t, .slice ao f.len cap] := by rw [← hW0]; exact Blk.new w _ _
  obtain ⟨m, hmm⟩ : ∃ m, f.len = m := ⟨_, rfl⟩
  rw [hmm] at hm hs hW0 hk1 hfl ⊢
  have HF := Lib.hid (hs.below hb0 (Nat.le_refl _)); have HL := Lib.hid hmm; have HP := Lib.hid hp; have HB0 := Lib.hid hb0
  have HK1 := Lib.hid hk1; have HW0 := Lib.hid hW0; have HWT := Lib.hid hct'; have HDL := Lib.hid hdl
  have a2 := hk1.cell 2
  clear hs hmm hp hb0 hk1 hW0 hct hct' hdl
  go_enter Tryd.func45, Tryd.ntmps45
  go_wp2_with fail
  rw [HW0.out]
  go_wp2_with fail
  ((with_reducible refine (growI_calls m (by omega) _).mono ?_); rintro e w1 ⟨v1, rfl, hown, hb1⟩)
  obtain ⟨ao1, cap1, rfl, _⟩ := own_len' hown
  have a2 := (HK1.out.own hb1).cell 2
  have HBL := Lib.hid hown; have HB1 := Lib.hid hb1
  clear hown hb1
  go_wp2_with fail
  go_loopw [5, 15] (fun a i wr => ∃ j : Nat, j ≤ m ∧ i = .int .i64 (j : Int) ∧ wr.ownsRow W0.heap.size 3 1 a j (nums (f.take j).deeps) ∧ Below W0.heap.size W0 wr) (fun _ i _ => m - (intOf i).toNat)
  case atStart => exact ⟨0, Nat.zero_le _, rfl, by have := HBL.out; cases f <;> exact this, HB1.out⟩
  case round =>
    obtain ⟨j, hj, rfl, hbd, hbw⟩ := hrel
    have a2 := (HK1.out.own hbw).cell 2
    by_cases hlt : j < m
    · obtain ⟨x, hx⟩ := Fo.get_of_lt (f := f) (i := j) (by rw [HL.out]; exact hlt)
      have hFw := HF.out.toLt.below hbw (Nat.le_refl _)
      obtain ⟨g1, o1, ao2, cap2, rfl, _, hg1, d0, d1, d2, d3⟩ := hFw.get hx
      have hlt1 : (j : Int) < (m : Int) := by omega
      have hxw : x.count ≤ 1000000 := by have := Fo.count_get hx; have := HWT.out; omega
      have hsn := Fo.deeps_snoc hx
      obtain ⟨wa, hwa⟩ : ∃ wa, wr.alloc (.cells #[.int .i64 x.k, .string x.t, .slice ao2 x.kids.len cap2] 24) = wa := ⟨_, rfl⟩
      have hba : Below wr.heap.size wr wa := by rw [← hwa]; exact (Below.refl _ wr).alloc (Nat.le_refl _) _
      have hka : Blk wa wr.heap.size 24 #[.int .i64 x.k, .string x.t, .slice ao2 x.kids.len cap2] := by rw [← hwa]; exact Blk.new wr _ _
      have hcall := HP.out.get hx hxw wa _ ((NdAt.mk (d3.toLt.below hba (Nat.le_refl _))).mono hba.size)
      obtain ⟨d, hd⟩ : ∃ d, x.deep = d := ⟨_, rfl⟩
      rw [hd] at hcall hsn
      have HC := Lib.hid hcall; have HWA := Lib.hid hwa; have HSN := Lib.hid hsn
      have HW := Lib.hid (hbw.trans (hba.mono hbw.size)); have HBD := Lib.hid (own_step hbd hba)
      have e0 := hka.cell 0; have e1 := hka.cell 1; have e2 := hka.cell 2
      have hW0s := HW.out.size
      clear hcall hx d3 hbw hFw hxw hwa hka hba hbd hd hsn
      obtain ⟨ao5, cap5, rfl, _⟩ := own_len' HBD.out
      go_wp2_with fail
      rw [HWA.out]
      go_wp2_with fail
      ((with_reducible refine HC.out.mono ?_); rintro e wb ⟨rfl, hbb⟩)
      have hown := own_step HBD.out hbb
      have HWB := Lib.hid (HW.out.trans (hbb.mono HW.out.size))
      have hwb := hbb.size
      clear hbb
      go_wp2_with (at_builtin; refine wpList_append_own_at _ rfl _ _ 25 rfl W0.heap.size 3 i0 _ 1 8 Tryd.underlying25 hi hz0 hz1 hz2 rfl (by decide) _ _ _ rfl (hown.alloc _) ⟨wb.heap.size, 0, none⟩ 1 1 [.int .i64 (d : Int)] rfl rfl (cell_one_new _ _ _) (by simp [Value.oneCell']) (by unfold maxLen; omega) (by omega) (by simp; omega) ?_; intro v' w' hown' hgrow _ hat; obtain ⟨ao7, cap7, rfl, _⟩ := own_len' hown')
      rw [← nums_snoc, ← HSN.out] at hown'
      have hbw2 := (HWB.out.alloc HWB.out.size _).grown hgrow (by have := HWB.out.size; simp; omega) (fun k hk => (hown.lt k hk).1)
      have HBD2 := Lib.hid hown'; have HBW2 := Lib.hid hbw2
      clear hown hown' hgrow hat hbw2
      go_wp2_with fail
      exact ⟨⟨j + 1, by omega, by go_num, HBD2.out, HBW2.out⟩, by simp [intOf]; omega⟩
    · obtain rfl : j = m := by omega
      have hge : decide ((j : Int) < (j : Int)) = false := by simp
      rw [Fo.take_all (by rw [HL.out]; exact Nat.le_refl _)] at hbd
      obtain ⟨ao5, cap5, rfl, _⟩ := own_len' hbd
      have a0 := (HK1.out.own hbw).cell 0
      have a1 := (HK1.out.own hbw).cell 1
      have hcall := tellD_calls W0.heap.size (.slice ao5 j cap5) f.deeps k t ao j cap wr (fun d hd => by have := HDL.out d hd; have := HWT.out; omega) (by rw [Fo.deeps_len, HL.out]; exact hbd)
      rw [Fo.deeps_max, ← show Nd.deep ⟨k, t, f⟩ = 1 + f.deep from rfl] at hcall
      have HC := Lib.hid hcall; have HBW := Lib.hid hbw
      clear hcall hbd hbw
      go_wp2_with fail
      ((with_reducible refine HC.out.mono ?_); rintro e wb ⟨rfl, hb2⟩)
      have HB2 := Lib.hid hb2
      clear hb2
      go_wp2_with fail
      go_ret
      exact ⟨rfl, HB0.out.trans ((HBW.out.trans (HB2.out.mono HBW.out.size)).mono HB0.out.size)⟩

set_option maxRecDepth 100000 in
set_option maxHeartbeats 4000000 in
theorem deep_calls (x : Nd) (hct : x.count ≤ 1000000) (w : World) (v : Value) (hu : NdAt (Lt w.heap.size) w x v) :
    Calls Tryd.prog 23 #[v] w fun e w' => e = .returned (.int .i64 (x.deep : Int)) ∧ Below w.heap.size w w' := by
  obtain ⟨s, rfl, hs⟩ := hu
  obtain ⟨ao, cap, rfl, hm⟩ := hs.slice
  have hb0 : Below w.heap.size w (w.alloc (.cells #[.int .i64 x.k, .string x.t, .slice ao x.kids.len cap] 24)) := (Below.refl _ w).alloc (Nat.le_refl _) _
  have hcall := foldI_ok x hct (w.alloc (.cells #[.int .i64 x.k, .string x.t, .slice ao x.kids.len cap] 24)) _ ((NdAt.mk (hs.below hb0 (Nat.le_refl _))).mono hb0.size)
  obtain ⟨d, hd⟩ : ∃ d, x.deep = d := ⟨_, rfl⟩
  rw [hd] at hcall ⊢
  have HC := Lib.hid hcall; have HB0 := Lib.hid hb0
  clear hcall hb0 hs hd
  go_enter Tryd.func23, Tryd.ntmps23
  go_wp2_with fail
  ((with_reducible refine HC.out.mono ?_); rintro e wb ⟨rfl, hb2⟩)
  have HB2 := Lib.hid hb2
  clear hb2
  go_wp2_with fail
  go_ret
  exact ⟨rfl, HB0.out.trans (HB2.out.mono HB0.out.size)⟩
end Go.Proofs.YtbdkemgfdghbkaaDoor.nd
