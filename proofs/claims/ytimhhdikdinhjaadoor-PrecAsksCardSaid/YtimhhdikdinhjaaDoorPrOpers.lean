/-
  prec.Opers: its contract: the operators' texts in new memory.
-/
import Derived.Test.YtimhhdikdinhjaaDoorPrTable
import Derived.Test.YtimhhdikdinhjaaDoorPrBase
import Derived.RegionIn
namespace Go.Proofs.YtimhhdikdinhjaaDoor.pr
open Go.RowKit Go.Shelf sx
attribute [local go_sem] Oper.semAt_some
set_option linter.unusedVariables false

theorem own_ne {W : World} {base : Nat} {e t : TypeId} {size n B : Nat} {v : Value} {xs : List Value} {vs : Array Value} (h : W.ownsRow base e size v n xs) (hb : Blk W B t vs) (ht : t ≠ e) : (some B : Option Nat) ≠ v.ownBlock := by
  intro he
  rcases h.2 with ⟨rfl, _⟩ | ⟨g, cap, cur, rfl, _, hgb, _⟩
  · simp [Value.ownBlock] at he
  · obtain rfl : B = g := by simpa [Value.ownBlock] using he
    rw [show W.heap[B]? = _ from hb] at hgb
    injection hgb with hgb; injection hgb with _ h2 _
    exact ht h2
def names (l : List Op) : List ByteArray := l.map (·.1)
/-- The list that is made (its block is N) holds the texts that have come; its box is behind it. -/
def OpO (N : Nat) (pre : List Op) (W : World) : Prop :=
  ∃ v, Boxed W (N + 1) 25 v ∧ W.ownsRow N 9 1 v pre.length (strs (names pre)) ∧ True
theorem OpO_own (N : Nat) : Own (OpO N) := by
  have h := holdsRow_own (β := List Op) N (N + 1) 25 9 1 (fun pre => pre.length) (fun pre => strs (names pre)) (fun _ _ => True)
  exact h
def OpI (w : World) (N : Nat) (pre : List Op) (W : World) : Prop := OpO N pre W ∧ Below w.heap.size w W
theorem OpI_own (w : World) (N B : Nat) (hB : w.heap.size ≤ B) : OwnFrom B (OpI w N) :=
  OwnFrom.and (Own.from (OpO_own N) _) (ownFrom_below (Nat.le_refl _) hB)
abbrev opAct (N : Nat) (x : Op) (v6 v7 v8 v9 v10 : Value) : Act :=
  { tmps := #[.slice none 0 0, .pointer (some ⟨N + 1, 0, none⟩), .string x.1, .slice (some ⟨N, 0, none⟩) 0 24, .string x.1, .agg #[.int .i64 x.2.1, .int .i64 x.2.2], v6, v7, v8, v9, v10, undef], defers := [] }
def OpA (N : Nat) (x : Op) (a' : Act) (W : World) : Prop := a' = opAct N x undef undef undef undef undef
theorem OpA_own (N : Nat) (x : Op) (a' : Act) (B : Nat) : OwnFrom B (fun (_ : Unit) W => OpA N x a' W) := fun _ X Y row hs hg hr => hs

/-- In the drawn region: what each operation has left, whatever the order. -/
structure OpR (N : Nat) (tb : ByteArray) (out : Value) (k : Nat) (xs : List Value) (W1 : World) (d : Nat → Bool) (v6 v7 v8 v9 v10 : Value) (u : World) : Prop where
  p0 : d 0 = true → v6 = out
  p1 : d 1 = true → v7 = .string tb
  p2 : d 2 = true → v8 = .string tb
  q2 : d 2 = true → d 1 = true
  q3 : d 3 = true → d 2 = true
  q4 : d 4 = true → d 0 = true ∧ d 3 = true
  q5 : d 5 = true → d 4 = true
  w7 : d 3 = false → Below W1.heap.size W1 u
  w8 : d 3 = true → d 4 = false → ∃ z, Below W1.heap.size W1 z ∧ u = z.alloc (.cells #[.string tb] 9) ∧ v9 = .slice (some ⟨z.heap.size, 0, none⟩) 1 1
  w9 : d 4 = true → d 5 = false → ∃ z, Below W1.heap.size W1 z ∧ u.ownsRow N 9 1 v10 (k + 1) (xs ++ [.string tb]) ∧ (z.alloc (.cells #[.string tb] 9)).grownBy u out.ownBlock
  w10 : d 5 = true → ∃ z wq v', Below W1.heap.size W1 z ∧ wq.ownsRow N 9 1 v' (k + 1) (xs ++ [.string tb]) ∧ (z.alloc (.cells #[.string tb] 9)).grownBy wq out.ownBlock ∧ u = wq.setCell ⟨N + 1, 0, none⟩ v'
def OpV (N : Nat) (x : Op) (out : Value) (k : Nat) (xs : List Value) (W1 : World) (listed : Array Bool) (a : Act) (u : World) : Prop :=
  listed.size = 6 ∧ ∃ v6 v7 v8 v9 v10, a = opAct N x v6 v7 v8 v9 v10 ∧ OpR N x.1 out k xs W1 (rinv.done listed) v6 v7 v8 v9 v10 u
theorem OpR.early {N : Nat} {tb : ByteArray} {out : Value} {k : Nat} {xs : List Value} {W1 : World} {d : Nat → Bool} {v6 v7 v8 v9 v10 : Value} {u : World}
    (h : OpR N tb out k xs W1 d v6 v7 v8 v9 v10 u) (h4 : d 4 = false) : Below W1.heap.size W1 u := by
  cases h3 : d 3 with
  | false => exact h.w7 h3
  | true => obtain ⟨z, hz, rfl, _⟩ := h.w8 h3 h4; exact hz.alloc hz.size _

theorem made (w : World) : ∃ w', (Instr.makeSlice 25 (.int .i64 0) (.int .i64 24)).run Tryd.prog w = .ok (.slice (some ⟨w.heap.size, 0, none⟩) 0 24) w' ∧
      w'.ownsRow w.heap.size 9 1 (.slice (some ⟨w.heap.size, 0, none⟩) 0 24) 0 [] ∧ w.grownBy w' none ∧ w'.heap.size = w.heap.size + 1 := by
  obtain ⟨i0, hi, hz0, hz1, hz2⟩ := info_parts infoStr
  have hr := run_make (P := Tryd.prog) w 25 9 i0 (.string ⟨#[]⟩) Tryd.underlying25 hi hz0 .i64 .i64 0 24 (by decide) (by decide) (by rw [hz2]; decide) (by decide)
  refine ⟨_, hr, World.ownsRow_made w _ 24 (Nat.le_refl _) (by decide) (by rw [size_madeCells, hz1]; rfl), World.grownBy_alloc w _ none, by simp⟩

theorem cell_one_new (w : World) (a : Value) (t : TypeId) : ∀ j u, [a][j]? = some u → (w.alloc (.cells #[a] t)).cell? ((⟨w.heap.size, 0, none⟩ : Addr).add j) = some u := str_new w a t
theorem names_snoc (l : List Op) (x : Op) : strs (names (l ++ [x])) = strs (names l) ++ [.string x.1] := by simp [strs, names]
theorem belowD {w W : World} (h : Below w.heap.size w W) {D : Nat} (o' : Obj) (hD : w.heap.size ≤ D) : Below w.heap.size w (W.putObj D o') :=
  h.grown (grownBy_putObj' W D o') h.size (fun j e => by cases e; exact hD)

set_option maxRecDepth 100000 in
set_option maxHeartbeats 4000000 in
theorem opers_in (n : Nat) (hn : 3 ≤ n) (w : World) (hL : LvAt w) :
    CallsIn Fence.wide n Tryd.prog 14 #[] w fun e W' => ∃ v, e = .returned v ∧ W'.ownsRow w.heap.size 9 1 v 24 (strs (names opsP)) ∧ Below w.heap.size w W' := by
  have h1 : 1 ≤ n := by omega
  obtain ⟨wm, hmk, hown0, hgm, hsm⟩ := made w
  have HL := Lib.hid hL
  clear hL
  refine callsIn_of_wp_marks Tryd.func14 rfl trivial ?_ rfl
  simp only [Tryd.ntmps14, List.size_toArray, List.length_nil, Nat.reduceSub, Array.replicate_succ, Array.replicate_zero, List.push_toArray, List.append_toArray, List.nil_append]
  gi_wp2_with fail
  have hB0 : Below w.heap.size w (wm.alloc (.cells #[.slice (some ⟨w.heap.size, 0, none⟩) 0 24] 25)) := ((Below.refl _ w).grown hgm (Nat.le_refl _) (fun j e => by cases e)).alloc (by omega) _
  have b0 : Boxed (wm.alloc (.cells #[.slice (some ⟨w.heap.size, 0, none⟩) 0 24] 25)) (w.heap.size + 1) 25 (.slice (some ⟨w.heap.size, 0, none⟩) 0 24) := by
    have := Boxed.new wm 25 (.slice (some ⟨w.heap.size, 0, none⟩) 0 24)
    rwa [hsm] at this
  have hr0 := hown0.alloc (.cells #[.slice (some ⟨w.heap.size, 0, none⟩) 0 24] 25)
  have hs0 : (wm.alloc (.cells #[.slice (some ⟨w.heap.size, 0, none⟩) 0 24] 25)).heap.size = w.heap.size + 2 := by simp [hsm]
  obtain ⟨W0, hW0⟩ : ∃ W0, (wm.alloc (.cells #[.slice (some ⟨w.heap.size, 0, none⟩) 0 24] 25)) = W0 := ⟨_, rfl⟩
  rw [hW0] at hB0 b0 hr0 hs0 ⊢
  have hG := graded_all (n - 1) (by omega) w HL.out
  clear hW0 hown0 hgm hsm hmk HL
  refine wpIn_rangeFunc_all (F := Fence.wide) rfl h1 (gf := 25) (lb := #[]) rfl trivial (enters_of Tryd.func25 (by kernel_rfl) rfl)
    hG KT.trans (KT.put (by omega)) hB0 (fun _ => rfl)
    (OpI w w.heap.size) (OpI_own w _ _ (by omega)) ⟨⟨_, b0, hr0, trivial⟩, hB0⟩
    (OpA w.heap.size) (fun x a' => OpA_own _ x a' _)
    ?assign ?body ?done
  case assign =>
    rintro l pre x W K hI hK
    gi_wp2
    exact hK _ _ (KeepsFrom.refl _ _) (KT.refl _ _ _) hI rfl
  case body =>
    rintro l pre x rest a' W hys hl ⟨⟨v, hv, hrow, _⟩, hB⟩ rfl
    have hmx : Tryd.prog.follows .mixedOrders = true := by kernel_rfl
    have hdep : 1 ≤ n - 1 - 1 := by omega
    have hf25 : Fence.wide.fn 24 := trivial
    obtain ⟨oa, ol, oc, rfl⟩ := own_slice hrow
    obtain ⟨i0, hi, hz0, hz1, hz2⟩ := info_parts infoStr
    obtain ⟨xs, hxs⟩ : ∃ xs, strs (names pre) = xs := ⟨_, rfl⟩
    rw [hxs] at hrow
    have HX := Lib.hid hxs
    have hpl : pre.length ≤ 24 := by have := congrArg List.length hys; rw [ops_len] at this; simp at this; omega
    have hxl : x.1.size ≤ 3 := ops_small x (by rw [hys]; simp)
    clear hxs hys hB0 b0 hr0 hG
    have cO : W.drew.cell? ⟨w.heap.size + 1, 0, none⟩ = some (.slice oa ol oc) := hv.cell
    have lO := hv.lt
    have hsz1 : W.drew.heap.size = W.heap.size := rfl
    gi_wp2
    refine wpIn_region_any hmx ?_
    change wpAnyIn _ _ _ _ _ _ _ _ _ W.drew
    refine rinv.wpAnyIn_inv (OpV w.heap.size x (.slice oa ol oc) pre.length xs W.drew) ?step ?fin _ _ _ _ (by decide) ?start
    case start =>
      refine ⟨rfl, _, _, _, _, _, rfl, ?_⟩
      constructor <;> first | exact fun h => absurd h (by decide) | exact fun _ => Below.refl _ _
    case fin =>
      rintro listed a u ⟨hsl, v6, v7, v8, v9, v10, rfl, h⟩ hre
      have hno : ∀ i, i ∉ Region.ready _ _ listed := fun i hi => by rw [hre] at hi; cases hi
      have mk : ∀ i, i < 6 → _ → rinv.done listed i = true := fun i hi ha => by
        cases hq : rinv.done listed i with
        | true => rfl
        | false => exact absurd (rinv.ready_of hi hsl hq ha) (hno i)
      have k0 := mk 0 (by omega) (by simp)
      have k1 := mk 1 (by omega) (by simp)
      have k2 := mk 2 (by omega) (by simp [k1])
      have k3 := mk 3 (by omega) (by simp [k2])
      have k4 := mk 4 (by omega) (by simp [k0, k2, k3])
      have k5 := mk 5 (by omega) (by simp [k0, k1, k2, k3, k4])
      obtain ⟨z, w1, v', hz, hown', hgrow, rfl⟩ := h.w10 k5
      obtain ⟨hbx, hko, hbe, hty⟩ := appended hz hrow.drew hgrow (by omega)
      have e1 : Boxed w1 (w.heap.size + 1) 25 (.slice oa ol oc) := hty _ _ _ (by decide) (show Boxed W.drew _ _ _ from hv)
      have hne := own_ne hown' (show Blk w1 (w.heap.size + 1) 25 #[.slice oa ol oc] from e1) (by decide)
      have hres : OpI w w.heap.size (pre ++ [x]) (w1.setCell ⟨w.heap.size + 1, 0, none⟩ v') := by
        refine ⟨⟨v', e1.set v', ?_, trivial⟩, ?_⟩
        · have := own_set hown' (o := 0) (u := v') hne
          rw [names_snoc, HX.out]
          simpa using this
        · exact (hB.drew.trans (hbe.mono (by omega))).setCell (p := ⟨w.heap.size + 1, 0, none⟩) (by simp) _
      have hkf : KeepsOthers W (w1.setCell ⟨w.heap.size + 1, 0, none⟩ v') := ((KeepsOthers.drew W).trans hko).trans (KeepsOthers.setCell _ _ _)
      have hkt : KT w.heap.size 47 W (w1.setCell ⟨w.heap.size + 1, 0, none⟩ v') := by
        refine ⟨((Below.refl _ W).drew.trans hbe).setCell (p := ⟨w.heap.size + 1, 0, none⟩) (by simp) _, fun B vs hb => ?_⟩
        have hb1 : Blk w1 B 47 vs := hty _ _ _ (by decide) (show Blk W.drew B _ vs from hb)
        refine hb1.other (fun e => ?_) v'
        subst e
        have e2 := (show w1.heap[w.heap.size + 1]? = _ from hb1).symm.trans (show w1.heap[w.heap.size + 1]? = _ from e1)
        have := (Obj.cells.inj (Option.some.inj e2)).2.1
        exact absurd this (by decide)
      clear mk hno k0 k1 k2 k3 k4 k5 hre h
      gi_wp2
      exact ⟨hkf.from _, hkt, hres⟩
    case step =>
      rintro listed a u i ⟨hsl, v6, v7, v8, v9, v10, rfl, h⟩ hi
      obtain ⟨hlt11, hnot, haft⟩ := rinv.ready_mem hi
      have hd : rinv.done (listed.setIfInBounds i true) = fun k => (k == i) || rinv.done listed k := funext (rinv.done_set hnot)
      have hni := rinv.done_not hnot
      have hsl' : (listed.setIfInBounds i true).size = 6 := by rw [Array.size_setIfInBounds]; exact hsl
      have HD := Lib.hid hd; have HS := Lib.hid hsl'; have HN := Lib.hid hni; have HA := Lib.hid haft
      have HH := Lib.hid h
      clear hd hsl' hsl hnot hi hni haft h
      match i, hlt11 with
      | 0, _ =>
        refine rinv.wpOpIn_of_list rfl ?_
        have h4 := not_of (fun e => (HH.out.q4 e).1) HN.out
        have hc : u.cell? ⟨w.heap.size + 1, 0, none⟩ = some (.slice oa ol oc) := ((HH.out.early h4).cell (p := ⟨w.heap.size + 1, 0, none⟩) lO).trans cO
        clear h4 cO
        gi_wp2
        refine ⟨HS.out, _, _, _, _, _, rfl, ?_⟩
        rw [HD.out]
        exact { HH.out with p0 := fun _ => rfl, q4 := fun e => ⟨rfl, (HH.out.q4 e).2⟩ }
      | 1, _ =>
        refine rinv.wpOpIn_of_list rfl ?_
        clear cO
        gi_wp2
        refine ⟨HS.out, _, _, _, _, _, rfl, ?_⟩
        rw [HD.out]
        exact { HH.out with p1 := fun _ => rfl, q2 := fun _ => rfl }
      | 2, _ =>
        refine rinv.wpOpIn_of_list rfl ?_
        have h2 : rinv.done listed 1 = true := by simpa [Region.binds] using HA.out
        have e16 := HH.out.p1 h2
        subst e16
        have H2 := Lib.hid h2
        have h8 := not_of HH.out.q3 HN.out
        have h9 := not_of (fun e => (HH.out.q4 e).2) h8
        have h10 := not_of HH.out.q5 h9
        have hu := HH.out.w7 h8
        have H8 := Lib.hid h8; have H9 := Lib.hid h9; have H10 := Lib.hid h10
        clear cO h2 h8 h9 h10
        gi_wp2_with (gi_at_call 24; refine (CallsIn.inRound l (callsIn_wide.2 (clone_calls _ (by omega) _))).mono ?_; rintro e w' ⟨rfl, hb⟩)
        refine ⟨HS.out, _, _, _, _, _, rfl, ?_⟩
        rw [HD.out]
        exact { HH.out with
          p2 := fun _ => rfl, q2 := fun _ => H2.out, q3 := fun _ => rfl
          w7 := fun _ => hu.trans (hb.mono hu.size)
          w8 := fun e _ => absurd (show rinv.done listed 3 = true from e) (by rw [H8.out]; simp)
          w9 := fun e _ => absurd (show rinv.done listed 4 = true from e) (by rw [H9.out]; simp)
          w10 := fun e => absurd (show rinv.done listed 5 = true from e) (by rw [H10.out]; simp) }
      | 3, _ =>
        refine rinv.wpOpIn_of_list rfl ?_
        have h2 : rinv.done listed 2 = true := by simpa [Region.binds] using HA.out
        have e17 := HH.out.p2 h2
        subst e17
        have H2 := Lib.hid h2
        have h9 := not_of (fun e => (HH.out.q4 e).2) HN.out
        have h10 := not_of HH.out.q5 h9
        have hu := HH.out.w7 HN.out
        have H9 := Lib.hid h9; have H10 := Lib.hid h10
        clear cO h2 h9 h10
        gi_wp2
        refine ⟨HS.out, _, _, _, _, _, rfl, ?_⟩
        rw [HD.out]
        exact { HH.out with
          q3 := fun _ => H2.out, q4 := fun e => ⟨(HH.out.q4 e).1, rfl⟩
          w7 := fun e => by cases e
          w8 := fun _ _ => ⟨u, hu, rfl, rfl⟩
          w9 := fun e _ => absurd (show rinv.done listed 4 = true from e) (by rw [H9.out]; simp)
          w10 := fun e => absurd (show rinv.done listed 5 = true from e) (by rw [H10.out]; simp) }
      | 4, _ =>
        refine rinv.wpOpIn_of_list rfl ?_
        have h2 : rinv.done listed 0 = true ∧ rinv.done listed 3 = true := by have h := HA.out; simp [Region.binds] at h; simp [h]
        have e10 := HH.out.p0 h2.1
        subst e10
        obtain ⟨z, hz, rfl, e18⟩ := HH.out.w8 h2.2 HN.out
        subst e18
        have H2 := Lib.hid h2
        have h10 := not_of HH.out.q5 HN.out
        have H10 := Lib.hid h10
        have hrz := ownsRow_below hrow.drew hz
        have hzs := hz.size
        clear cO h2 h10
        refine wpListIn_append_own _ rfl _ _ 25 rfl w.heap.size 9 i0 (.string ⟨#[]⟩) 1 16 Tryd.underlying25 hi hz0 hz1 hz2 rfl (by decide) _ _ _ rfl (hrz.alloc _) ⟨z.heap.size, 0, none⟩ 1 1 [.string x.1] rfl rfl (cell_one_new _ _ _) (by simp [Value.oneCell']) (by unfold maxLen; omega) (by omega) (by simp; omega) ?_
        intro v' w1 hown' hgrow _
        gi_wp2
        refine ⟨HS.out, _, _, _, _, _, rfl, ?_⟩
        rw [HD.out]
        exact { HH.out with
          q4 := fun _ => H2.out, q5 := fun _ => rfl
          w7 := fun e => absurd (show rinv.done listed 3 = false from e) (by rw [H2.out.2]; simp)
          w8 := fun _ e => by cases e
          w9 := fun _ _ => ⟨z, hz, hown', hgrow⟩
          w10 := fun e => absurd (show rinv.done listed 5 = true from e) (by rw [H10.out]; simp) }
      | 5, _ =>
        refine rinv.wpOpIn_of_list rfl ?_
        have h2 : rinv.done listed 4 = true ∧ rinv.done listed 3 = true := by
          have h := HA.out
          simp [Region.binds] at h
          simp [h]
        obtain ⟨z, hz, hown', hgrow⟩ := HH.out.w9 h2.1 HN.out
        obtain ⟨g', cap', rfl⟩ := ownsRow_succ hown'
        have H2 := Lib.hid h2
        have hap : Boxed u (w.heap.size + 1) 25 (.slice oa ol oc) := (appended hz hrow.drew hgrow (by omega)).2.2.2 _ _ _ (by decide) (show Boxed W.drew _ _ _ from hv)
        have hc1 := hap.cell
        have hf1 := hap.frozen
        clear cO h2
        gi_wp2
        refine ⟨HS.out, _, _, _, _, _, rfl, ?_⟩
        rw [HD.out]
        exact { HH.out with
          q5 := fun _ => H2.out.1
          w7 := fun e => absurd (show rinv.done listed 3 = false from e) (by rw [H2.out.2]; simp)
          w8 := fun _ e => absurd (show rinv.done listed 4 = false from e) (by rw [H2.out.1]; simp)
          w9 := fun _ e => by cases e
          w10 := fun _ => ⟨z, u, _, hz, hown', hgrow, rfl⟩ }
      | (j + 6), h => exact absurd h (by simp)
  case done =>
    rintro D W hD ⟨⟨v, hv, hr, _⟩, hB⟩ hK
    rw [ops_len] at hr
    have HR := Lib.hid hr; have HB := Lib.hid hB; have HK := Lib.hid hK
    obtain ⟨oa, ol, oc, rfl⟩ := own_slice hr
    have hc := hv.cell
    clear hr hB hK hv hB0 b0 hr0 hG
    gi_wp2
    refine ⟨by simp, .inl ⟨_, _, rfl, run_takeDeferred HK.out, ?_⟩⟩
    refine ⟨_, ?_, _, rfl, ownsRow_putObj HR.out _ HK.out rfl, belowD HB.out _ (by omega)⟩
    simp [results, Tryd.f14, go_sem]
theorem opers_calls (w : World) (hL : LvAt w) :
    Calls Tryd.prog 14 #[] w fun e W' => ∃ v, e = .returned v ∧ StrsAt W'.heap.size W' v (names opsP) ∧ Below w.heap.size w W' := by
  refine (callsIn_wide.1 (opers_in 3 (Nat.le_refl _) w hL)).mono ?_
  rintro e W' ⟨v, rfl, hr, hb⟩
  exact ⟨v, rfl, own_strs (base := w.heap.size) (l := names opsP) (by simpa [names, ops_len] using hr), hb⟩
end Go.Proofs.YtimhhdikdinhjaaDoor.pr
