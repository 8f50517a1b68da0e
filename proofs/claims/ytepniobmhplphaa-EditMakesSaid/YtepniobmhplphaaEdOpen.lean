/-
  An argument of edits, opened: the edits that it holds; how long each text is.
-/
import Derived.Test.YtepniobmhplphaaEdKnown
import Derived.Deep.Slices
import Derived.SizedLaws
namespace Go.Proofs.Ytepniobmhplphaa.ed
open Go.RowKit Go.ChangeShapes Go.WideShapes Go.ChangeAt Go.ChangeMaps Go.Deep
set_option linter.unusedVariables false

instance : Inhabited Ed := ⟨⟨0, 0, ⟨#[]⟩⟩⟩
theorem cellsE : Try.prog.cellsOf 44 = 3 := by kernel_rfl
theorem cellsI : Try.prog.cellsOf 3 = 1 := by kernel_rfl
theorem cellsS : Try.prog.cellsOf 9 = 1 := by kernel_rfl

theorem weights_all_mem {H : Type} {P : Program} {e : TypeId} {n : Nat} : ∀ {ds : List (DataW H)} {d : DataW H}, d ∈ ds → n ∈ d.weights P e → n ∈ DataW.weightsAll P e ds
  | d0 :: ds, d, h, hn => by
    simp only [DataW.weightsAll, List.mem_append]
    rcases List.mem_cons.1 h with rfl | h
    · exact .inl hn
    · exact .inr (weights_all_mem h hn)

theorem open_eds {H : Type} {enc : TypeId × Value → H} {W : World} {base : Nat} {v : Value} {d : DataW H} {p : List MemPlace} (hok : Value.okWide Try.prog W .any base 22 v)
    (h : DataW.Trod enc Try.prog W 0 (fun _ => true) true 22 v d p) :
    ∃ es, EdsAt W.heap.size W v es ∧ ((d.weights Try.prog 22).all (· ≤ reachBytes) = true → ∀ e ∈ es, e.x.size ≤ reachBytes) := by
  obtain ⟨a0, len, cap, rfl⟩ := okWide_slice Try.underlying22 hok
  obtain ⟨fuel, hf⟩ := h
  rcases open_slice Try.underlying22 hf with ⟨hcs, hx⟩ | ⟨a, len', cap', m, n, D, Pl, hcs, _, hl, hm, hmm, hx, hall⟩
  · simp [Value.cells] at hcs
    obtain ⟨rfl, rfl, rfl⟩ := hcs
    exact ⟨[], EdsAt.nil _ _, fun _ e he => by simp at he⟩
  · simp [Value.cells] at hcs
    obtain ⟨rfl, rfl, rfl⟩ := hcs
    simp only [if_true] at hmm
    subst hmm
    have each : ∀ i, i < len → ∃ e : Ed, W.cell? (a.add (i * 3)) = some (.int .i64 e.f) ∧ W.cell? (a.add (i * 3 + 1)) = some (.int .i64 e.t) ∧ W.cell? (a.add (i * 3 + 2)) = some (.string e.x) ∧
        ∃ d0 d1, D i = .agg [d0, d1, .lit (.string e.x.data.toList)] := by
      intro i hi
      obtain ⟨cs', h1, h2⟩ := hall i (by omega)
      rw [cellsE] at h1
      obtain ⟨_, hlen, hcell⟩ := World.cells?_some h1
      obtain ⟨xs, k, hk, hxy, _, hxl, hfl⟩ := DataW.trod_struct Try.underlying44 h2
      match xs, hxl, cs', hlen with
      | [y0, y1, y2], _, [v0, v1, v2], _ =>
        have q0 := hfl 0 _ rfl
        have q1 := hfl 1 _ rfl
        have q2 := hfl 2 _ rfl
        simp [cellsI, cellsS] at q0 q1 q2
        obtain ⟨n0, e0, r0, _⟩ := DataW.trod_int Try.underlying3 q0
        obtain ⟨n1, e1, r1, _⟩ := DataW.trod_int Try.underlying3 q1
        obtain ⟨s2, e2, r2, _⟩ := DataW.trod_string Try.underlying9 q2
        have z0 := hcell 0 (by omega)
        have z1 := hcell 1 (by omega)
        have z2 := hcell 2 (by omega)
        rw [add_add] at z0 z1 z2
        simp at e0 e1 e2
        simp only [Prod.mk.injEq] at hxy
        refine ⟨⟨n0, n1, s2⟩, by simpa [e0] using z0, by simpa [e1] using z1, by simpa [e2] using z2, y0.1, y1.1, ?_⟩
        rw [hxy.1]
        simp [r2]
    obtain ⟨q, hq⟩ := choose_lt each
    refine ⟨(List.range len).map q, ⟨some a, m, by simp, by simp; omega, fun i e he => ?_⟩, fun hw e he => ?_⟩
    · have hi : i < len := by
        have := (List.getElem?_eq_some_iff.1 he).1
        simpa using this
      have hqe : q i = e := by simpa [hi] using he
      obtain ⟨c0, c1, c2, _⟩ := hq i hi
      rw [hqe] at c0 c1 c2
      obtain ⟨b, off, spot⟩ := a
      have hspot : spot = none := by simpa [Addr.add] using World.cell?_spot (hq 0 (by omega)).1
      subst hspot
      rw [add_plain] at c0 c1 c2
      exact ⟨b, off, rfl, World.block_lt_of_cell? W _ c0, c0, by simpa [Nat.add_assoc] using c1, by simpa [Nat.add_assoc] using c2⟩
    · obtain ⟨i, hi, rfl⟩ := List.mem_map.1 he
      have hi := List.mem_range.1 hi
      obtain ⟨_, _, _, d0, d1, hD⟩ := hq i hi
      have hdx : d = .slice ((List.range len).map D) ((List.range (m - len)).map fun j => D (len + j)) := by
        have := congrArg Prod.fst hx; exact this
      have := List.all_eq_true.1 hw (q i).x.data.toList.length (by
        rw [hdx]
        unfold DataW.weights
        rw [Try.underlying22]
        refine List.mem_cons_of_mem _ (List.mem_append_left _ (weights_all_mem (List.mem_map.2 ⟨i, List.mem_range.2 hi, rfl⟩) ?_))
        rw [hD]
        unfold DataW.weights
        rw [Try.underlying44]
        simp [DataW.weightsEach, DataW.weights])
      rw [size_toList] at this
      simpa using this
end Go.Proofs.Ytepniobmhplphaa.ed
