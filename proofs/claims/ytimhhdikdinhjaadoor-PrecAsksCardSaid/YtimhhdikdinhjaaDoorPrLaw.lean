/-
  prec: from the rows' condition to the table's cells; known.
-/
import Derived.Test.YtimhhdikdinhjaaDoorPrFns
import Derived.Test.YtimhhdikdinhjaaDoorPrOpers
import Derived.ProofKit
import Derived.LaidMore
import Derived.Lay
import Derived.Stop.Joined
import Derived.Deep.Slices
namespace Go.Proofs.YtimhhdikdinhjaaDoor.pr
open Go.RowKit Go.ChangeShapes Go.WideShapes Go.ChangeAt Go.Deep Go.Shelf sx
set_option linter.unusedVariables false

def laid : List (String × DataW Unit) := [("subeditor/prec.levels", Rows.laid_subeditor_prec_levels)]
def litRow (m : Nat) : DataW Unit := .agg [.lit (.int .i64 (sideM m)), .slice ((List.range (cnt m)).map fun k => .lit (.string (txt (strt m + k)).data.toList)) []]
theorem laid_list : (Rows.laid_subeditor_prec_levels : DataW Unit) = .agg ((List.range 9).map litRow) := by kernel_rfl
theorem two_of {l : List Value} {i : Nat} (h : i + 1 < l.length) : (l.drop i).take 2 = [l[i], l[i + 1]] := by
  rw [List.drop_eq_getElem_cons (by omega), List.drop_eq_getElem_cons h]; rfl
theorem cellsI : Tryd.prog.cellsOf 3 = 1 := by kernel_rfl
theorem cellsS : Tryd.prog.cellsOf 9 = 1 := by kernel_rfl
theorem cellsL : Tryd.prog.cellsOf 25 = 1 := by kernel_rfl
theorem cellsR : Tryd.prog.cellsOf 47 = 2 := by kernel_rfl

theorem lv_of_laid {W : World} (h : laidMetH Tryd.prog laid W) : LvAt W := by
  rw [MakeChecks.laidMetH_plain _ _ _ (by kernel_rfl)] at h
  obtain ⟨ps, ⟨g, t, cs, fuel, p, q, hg, ht, hv, hd, _, _⟩, _, _⟩ := h
  obtain rfl := Option.some.inj ((show Tryd.prog.globalNamed "subeditor/prec.levels" = some 0 by kernel_rfl).symm.trans hg)
  obtain rfl := Option.some.inj ((show (Tryd.prog.globals[0]?).map (·.type) = some 48 by kernel_rfl).symm.trans ht)
  obtain ⟨xs, n, _, ex, hcl, hl, hel⟩ := DataW.trod_array Tryd.underlying48 hd
  rw [show Tryd.prog.cellsOf 48 = 18 by kernel_rfl] at hcl
  have hcell : ∀ j v, cs.toList[j]? = some v → W.cell? ⟨0, j, none⟩ = some v := by
    intro j v hj
    rw [World.var?_cell hg hv j]
    simpa using hj
  have key : ∀ m, m < 9 → LevAt W cs.toList m := by
    intro m hm
    have hE := hel m hm
    rw [cellsR, List.getElem?_eq_getElem (by omega : m < xs.length), two_of (by omega)] at hE
    have hxm : (xs[m]'(by omega)).1 = litRow m := by
      rw [laid_list] at ex
      have e3 : (xs.map (·.1)) = (List.range 9).map litRow := (DataW.agg.inj (Prod.mk.inj ex).1).symm
      have e4 : (xs.map (·.1))[m]? = ((List.range 9).map litRow)[m]? := by rw [e3]
      rw [List.getElem?_map, List.getElem?_map, List.getElem?_eq_getElem (by omega : m < xs.length), List.getElem?_eq_getElem (by simpa using hm)] at e4
      simpa using e4
    obtain ⟨a, ha⟩ : ∃ a, cs.toList[m * 2]'(by omega) = a := ⟨_, rfl⟩
    obtain ⟨b, hb⟩ : ∃ b, cs.toList[m * 2 + 1]'(by omega) = b := ⟨_, rfl⟩
    have ha' : cs.toList[m * 2]? = some a := by rw [← ha]; exact List.getElem?_eq_getElem _
    have hb' : cs.toList[m * 2 + 1]? = some b := by rw [← hb]; exact List.getElem?_eq_getElem _
    rw [ha, hb] at hE
    obtain ⟨ys, k, _, hxy, _, hyl, hfl⟩ := DataW.trod_struct Tryd.underlying47 hE
    match ys, hyl with
    | [y0, y1], _ =>
      have q0 := hfl 0 _ rfl
      have q1 := hfl 1 _ rfl
      simp [cellsI, cellsL] at q0 q1
      obtain ⟨n0, e0, r0, _⟩ := DataW.trod_int Tryd.underlying3 q0
      rw [hxy] at hxm
      unfold litRow at hxm
      simp only [List.map_cons, List.map_nil, DataW.agg.injEq, List.cons.injEq, and_true] at hxm
      obtain ⟨h1, h2⟩ := hxm
      rw [r0] at h1
      simp only [DataW.lit.injEq, Lit.int.injEq, true_and] at h1
      rcases open_slice1 Tryd.underlying25 cellsS q1 with ⟨hcs, hx⟩ | ⟨a', len, cap, mm, n', V, D, Pl, hcs, _, hle, hmx, hmm, hx, hall⟩
      · rw [hx] at h2; simp at h2
      · rw [hx] at h2
        simp only [DataW.slice.injEq] at h2
        have hlen : len = cnt m := by have := congrArg List.length h2.1; simpa using this
        subst hlen
        have hlm : cnt m ≤ mm := by rw [hmm]; split <;> omega
        have hD : ∀ k, k < cnt m → W.cell? (a'.add k) = some (.string (txt (strt m + k))) := by
          intro k hk
          obtain ⟨hc, ht⟩ := hall k (by omega)
          obtain ⟨z, e1, e2, _⟩ := DataW.trod_string Tryd.underlying9 ht
          have e3 : D k = .lit (.string (txt (strt m + k)).data.toList) := by
            have := congrArg (fun l => l[k]?) h2.1
            simpa [hk] using this
          have e4 : z.data.toList = (txt (strt m + k)).data.toList := by
            have := (Prod.mk.inj e2).1
            rw [e3] at this
            simpa using this.symm
          have e5 : z = txt (strt m + k) := ByteArray.ext (Array.ext' e4)
          rw [hc, List.cons.inj e1 |>.1, e5]
        have hc1 := (cnt_le m hm).2
        obtain ⟨g, o, spot⟩ := a'
        have hspot : spot = none := by simpa [Addr.add] using World.cell?_spot (hD 0 (by omega))
        subst hspot
        refine ⟨?_, g, o, cap, ?_, ?_, fun k hk => ?_⟩
        · rw [ha', (List.cons.inj e0).1, h1]
        · rw [hb', (List.cons.inj hcs).1]
        · have := hD 0 (by omega)
          rw [add_plain] at this
          exact World.block_lt_of_cell? W _ this
        · rw [← add_plain]; exact hD k hk
  have hlt : 0 < W.heap.size := World.block_lt_of_cell? W _ (hcell _ _ (key 0 (by omega)).side)
  exact ⟨hlt, cs.toList, hcl, fun j v hj => by rw [Nat.zero_add]; exact hcell j v hj, key⟩

set_option maxRecDepth 100000 in
theorem laid_met (os : Os) (args : Array Value) : laidMetH Tryd.prog laid ((World.laidAll Tryd.prog os laid).forCall (fun _ _ => 0) ⟨#[], args, []⟩).memory := by
  rw [MakeChecks.laidMetH_plain _ _ _ (by kernel_rfl)]; exact laidMet_laidAll _ (by kernel_rfl) (by kernel_rfl)

theorem txt_facts : ∀ j, j < 24 → (txt j).size ≤ 3 ∧ 1 ≤ levelOf (txt j) ∧ levelOf (txt j) ≤ 9 := by decide +kernel
theorem names_at : ∀ j, j < 24 → (names opsP)[j]? = some (txt j) := by decide +kernel
theorem opers_at {n : Nat} {W : World} {v : Value} (h : StrsAt n W v (names opsP)) : ∃ g off cap, v = .slice (some ⟨g, off, none⟩) 24 cap ∧ g < n ∧ ∀ j, j < 24 → W.cell? ⟨g, off + j, none⟩ = some (.string (txt j)) := by
  obtain ⟨ao, cap, rfl, _, hc⟩ := h
  obtain ⟨g, off, rfl, hg, _⟩ := hc 0 _ (names_at 0 (by decide))
  refine ⟨g, off, cap, rfl, hg, fun j hj => ?_⟩
  obtain ⟨g2, off2, e, _, c⟩ := hc j _ (names_at j hj)
  simp only [Option.some.injEq, Addr.mk.injEq, and_true] at e
  rw [e.1, e.2]; exact c
theorem opers2_calls (w : World) (hL : LvAt w) :
    Calls Tryd.prog 14 #[] w fun e W' => ∃ g off cap, e = .returned (.slice (some ⟨g, off, none⟩) 24 cap) ∧ g < W'.heap.size ∧ (∀ j, j < 24 → W'.cell? ⟨g, off + j, none⟩ = some (.string (txt j))) ∧ Below w.heap.size w W' := by
  refine (opers_calls w hL).mono ?_
  rintro e W' ⟨v, rfl, hs, hb⟩
  obtain ⟨g, off, cap, rfl, hg, hc⟩ := opers_at hs
  exact ⟨g, off, cap, rfl, hg, hc, hb⟩

set_option maxRecDepth 100000 in
set_option maxHeartbeats 2000000 in
theorem known_calls (w : World) (hL : LvAt w) : Calls Tryd.prog 8 #[] w fun e W' => e = .returned (.bool true) ∧ Below w.heap.size w W' := by
  have k1 := fun W hL => left_calls ⟨#[45]⟩ (by decide) W hL
  have k2 := fun W hL => right_calls ⟨#[45]⟩ (by decide) W hL
  have k3 := fun W hL => level_calls ⟨#[124]⟩ (by decide) W hL
  have k4 := fun W hL => side_calls ⟨#[124]⟩ (by decide) W hL
  have k5 := fun W hL => level_calls ⟨#[120]⟩ (by decide) W hL
  rw [show besideOf ⟨#[45]⟩ 1 = 8 by decide +kernel] at k1
  rw [show besideOf ⟨#[45]⟩ 2 = 9 by decide +kernel] at k2
  rw [show levelOf ⟨#[124]⟩ = 1 by decide +kernel] at k3
  rw [show sideOf ⟨#[124]⟩ = 2 by decide +kernel] at k4
  rw [show levelOf ⟨#[120]⟩ = 0 by decide +kernel] at k5
  have K1 := Lib.hid k1; have K2 := Lib.hid k2; have K3 := Lib.hid k3; have K4 := Lib.hid k4; have K5 := Lib.hid k5
  have HL := Lib.hid hL
  clear hL k1 k2 k3 k4 k5
  go_enter Tryd.func8, Tryd.ntmps8
  go_wp2_with fail
  ((with_reducible refine (K1.out _ HL.out).mono ?_); rintro e w1 ⟨rfl, hb1⟩)
  go_wp2_with fail
  ((with_reducible refine (K2.out _ (HL.out.own hb1)).mono ?_); rintro e w2 ⟨rfl, hb2⟩)
  go_wp2_with fail
  ((with_reducible refine (K3.out _ ((HL.out.own hb1).own hb2)).mono ?_); rintro e w3 ⟨rfl, hb3⟩)
  go_wp2_with fail
  ((with_reducible refine (K4.out _ (((HL.out.own hb1).own hb2).own hb3)).mono ?_); rintro e w4 ⟨rfl, hb4⟩)
  go_wp2_with fail
  ((with_reducible refine (K5.out _ ((((HL.out.own hb1).own hb2).own hb3).own hb4)).mono ?_); rintro e w5 ⟨rfl, hb5⟩)
  go_wp2_with fail
  go_ret
  exact ⟨rfl, Below.next (Below.next (Below.next (Below.next hb1 hb2 (Nat.le_refl _)) hb3 (Nat.le_refl _)) hb4 (Nat.le_refl _)) hb5 (Nat.le_refl _)⟩
end Go.Proofs.YtimhhdikdinhjaaDoor.pr
