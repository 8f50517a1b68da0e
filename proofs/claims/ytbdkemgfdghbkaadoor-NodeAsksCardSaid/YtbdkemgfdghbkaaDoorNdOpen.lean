/-
  node: arguments opened: a tree, a list of numbers.
-/
import Derived.Test.YtbdkemgfdghbkaaDoorLaw
import Derived.Test.YtbdkemgfdghbkaaDoorNdRef3
import Derived.Test.YtbdkemgfdghbkaaDoorNdAt
import Derived.Test.YtbdkemgfdghbkaaDoorNdShow0
import Derived.Deep.Slices
import Derived.SizedLaws
namespace Go.Proofs.YtbdkemgfdghbkaaDoor.nd
open Go.RowKit Go.ChangeShapes Go.WideShapes Go.ChangeAt Go.ChangeMaps Go.Deep sx ed law
set_option linter.unusedVariables false

theorem cellsN : Tryd.prog.cellsOf 24 = 3 := by kernel_rfl
theorem cellsI : Tryd.prog.cellsOf 3 = 1 := by kernel_rfl
theorem cellsS : Tryd.prog.cellsOf 9 = 1 := by kernel_rfl
theorem cellsL : Tryd.prog.cellsOf 22 = 1 := by kernel_rfl

theorem Fo.Tx.of {B : Nat} : ∀ {f : Fo}, (∀ i x, f.get? i = some x → x.Tx B) → f.Tx B
  | .nil, _ => trivial
  | .cons k t kids r, h => ⟨(h 0 ⟨k, t, kids⟩ rfl).1, (h 0 ⟨k, t, kids⟩ rfl).2, Fo.Tx.of fun i x hx => h (i + 1) x hx⟩
theorem Fo.Kd.of : ∀ {f : Fo}, (∀ i x, f.get? i = some x → x.Kd) → f.Kd
  | .nil, _ => trivial
  | .cons k t kids r, h => ⟨(h 0 ⟨k, t, kids⟩ rfl).1, (h 0 ⟨k, t, kids⟩ rfl).2, Fo.Kd.of fun i x hx => h (i + 1) x hx⟩
theorem Fo.Tx.mono {B C : Nat} (h : B ≤ C) : ∀ {f : Fo}, f.Tx B → f.Tx C
  | .nil, _ => trivial
  | .cons k t kids r, ⟨h1, h2, h3⟩ => ⟨Nat.le_trans h1 h, Fo.Tx.mono h h2, Fo.Tx.mono h h3⟩
theorem Nd.Tx.mono {B C : Nat} (h : B ≤ C) {x : Nd} (hx : x.Tx B) : x.Tx C := ⟨Nat.le_trans hx.1 h, Fo.Tx.mono h hx.2⟩

theorem weights_mem_all {H : Type} {P : Program} {e : TypeId} {n : Nat} : ∀ {ds : List (DataW H)} {d : DataW H}, d ∈ ds → n ∈ d.weights P e → n ∈ DataW.weightsAll P e ds
  | d0 :: ds, d, h, hn => by
    simp only [DataW.weightsAll, List.mem_append]
    rcases List.mem_cons.1 h with rfl | h
    · exact .inl hn
    · exact .inr (weights_mem_all h hn)
theorem choose_nd {len : Nat} {p : Nat → Nd → Prop} (h : ∀ i, i < len → ∃ x, p i x) : ∃ q : Nat → Nd, ∀ i, i < len → p i (q i) := by
  refine ⟨fun i => if hi : i < len then (h i hi).choose else ⟨0, ⟨#[]⟩, .nil⟩, fun i hi => ?_⟩
  simp only [dif_pos hi]
  exact (h i hi).choose_spec

section
variable {H : Type} {enc : TypeId × Value → H} {W : World}
/-- A list of nodes, by the fuel. -/
def OpenK (enc : TypeId × Value → H) (W : World) (fuel : Nat) : Prop := ∀ (cs : List Value) (x : DataW H × List MemPlace), DataW.trod enc Tryd.prog W 0 (fun _ => true) true fuel 22 cs = some x →
    ∃ f s, cs = [s] ∧ KidsAt (Lt W.heap.size) W f s ∧ f.Kd ∧ ((x.1.weights Tryd.prog 22).all (· ≤ reachBytes) = true → f.Tx reachBytes)

set_option maxRecDepth 100000 in
theorem open_three {fuel : Nat} {cs : List Value} {y : DataW H × List MemPlace} (ih : ∀ k, k < fuel → OpenK enc W k) (h : DataW.trod enc Tryd.prog W 0 (fun _ => true) true fuel 24 cs = some y) :
    ∃ (x : Nd) (s : Value), cs = [.int .i64 x.k, .string x.t, s] ∧ KidsAt (Lt W.heap.size) W x.kids s ∧ x.Kd ∧ ((y.1.weights Tryd.prog 24).all (· ≤ reachBytes) = true → x.Tx reachBytes) := by
  obtain ⟨xs, k, rfl, hxy, hln, hxl, hfl⟩ := DataW.trod_struct Tryd.underlying24 h
  rw [cellsN] at hln
  match xs, hxl, cs, hln with
  | [y0, y1, y2], _, [v0, v1, v2], _ =>
    have q0 := hfl 0 _ rfl
    have q1 := hfl 1 _ rfl
    have q2 := hfl 2 _ rfl
    simp [cellsI, cellsS, cellsL] at q0 q1 q2
    obtain ⟨n0, e0, r0, w0⟩ := DataW.trod_int Tryd.underlying3 q0
    obtain ⟨s1, e1, r1, w1⟩ := DataW.trod_string Tryd.underlying9 q1
    obtain ⟨f, s2, e2, hk, hkd, htx⟩ := ih k (by omega) _ _ q2
    simp at e0 e1 e2
    refine ⟨⟨n0, s1, f⟩, s2, by rw [e0, e1, e2], hk, ⟨law.i64_wf w0, hkd⟩, fun hw => ?_⟩
    rw [hxy] at hw
    unfold DataW.weights at hw
    rw [Tryd.underlying24] at hw
    simp only [List.map_cons, List.map_nil, DataW.weightsEach, List.all_append, Bool.and_eq_true] at hw
    refine ⟨?_, htx hw.2.2.1⟩
    have := hw.2.1
    rw [r1] at this
    simp only [DataW.weights, List.all_cons, List.all_nil, Bool.and_true, decide_eq_true_eq] at this
    have e : s1.size = s1.data.toList.length := Array.length_toList.symm
    show s1.size ≤ reachBytes
    rw [e]
    exact this

set_option maxRecDepth 100000 in
theorem open_kids (enc : TypeId × Value → H) (W : World) (fuel : Nat) : OpenK enc W fuel := by
  induction fuel using Nat.strongRecOn with
  | ind fuel ih =>
    intro cs x h
    rcases DataW.trod_slice Tryd.underlying22 h with ⟨rfl, rfl⟩ | ⟨a, len, cap, elems, rest, n, rfl, rfl, rfl, _, hl, hm, hlen, hel, _, _⟩
    · exact ⟨.nil, _, rfl, kids_nil _ _ _ _, trivial, fun _ => trivial⟩
    · have each : ∀ i, i < len → ∃ x : Nd, (∃ s, W.cell? (a.add (i * 3)) = some (.int .i64 x.k) ∧ W.cell? (a.add (i * 3 + 1)) = some (.string x.t) ∧ W.cell? (a.add (i * 3 + 2)) = some s ∧ KidsAt (Lt W.heap.size) W x.kids s) ∧ x.Kd ∧
          ∃ y, y ∈ elems ∧ ((y.1.weights Tryd.prog 24).all (· ≤ reachBytes) = true → x.Tx reachBytes) := by
        intro i hi
        have hy := hel i hi
        rw [List.getElem?_eq_getElem (by omega)] at hy
        obtain ⟨cs', h1, h2⟩ := Option.bind_eq_some_iff.1 hy
        rw [cellsN] at h1
        obtain ⟨_, hln, hcell⟩ := World.cells?_some h1
        obtain ⟨x, s, rfl, hk, hkd, htx⟩ := open_three (fun k hk => ih k (by omega)) h2
        have z0 := hcell 0 (by omega)
        have z1 := hcell 1 (by omega)
        have z2 := hcell 2 (by omega)
        rw [add_add] at z0 z1 z2
        exact ⟨x, ⟨s, by simpa using z0, by simpa using z1, by simpa using z2, hk⟩, hkd, _, List.getElem_mem _, htx⟩
      obtain ⟨q, hq⟩ := choose_nd each
      have hget : ∀ i x, (Fo.ofL ((List.range len).map q)).get? i = some x → i < len ∧ x = q i := fun i x hx => by
        rw [Fo.ofL_get] at hx
        have hi : i < len := by
          have := (List.getElem?_eq_some_iff.1 hx).1
          simpa using this
        exact ⟨hi, by simpa [hi] using hx.symm⟩
      refine ⟨Fo.ofL ((List.range len).map q), _, rfl, ?_, Fo.Kd.of fun i x hx => ?_, fun hw => Fo.Tx.of fun i x hx => ?_⟩
      · have hfl : (Fo.ofL ((List.range len).map q)).len = len := by rw [Fo.ofL_len]; simp
        refine ⟨some a, cap, by rw [hfl], by rw [hfl]; omega, fun hn => ?_⟩
        have hpos : 0 < len := by
          rcases Nat.eq_zero_or_pos len with h0 | h0
          · exact absurd (Fo.len_zero (by rw [hfl]; exact h0)) hn
          · exact h0
        obtain ⟨⟨s0, c0, _⟩, _⟩ := hq 0 hpos
        obtain ⟨b, off, spot⟩ := a
        have hspot : spot = none := by simpa [Addr.add] using World.cell?_spot c0
        subst hspot
        refine ⟨b, off, rfl, ?_, RowAt.of fun i x hx => ?_⟩
        · rw [add_plain] at c0
          exact World.block_lt_of_cell? W _ c0
        · obtain ⟨hi, rfl⟩ := hget i x hx
          obtain ⟨⟨s, z0, z1, z2, hk⟩, _⟩ := hq i hi
          rw [add_plain] at z0 z1 z2
          exact ⟨s, z0, by simpa [Nat.add_assoc] using z1, by simpa [Nat.add_assoc] using z2, hk⟩
      · obtain ⟨hi, rfl⟩ := hget i x hx
        exact (hq i hi).2.1
      · obtain ⟨hi, rfl⟩ := hget i x hx
        obtain ⟨_, _, y, hy, htx⟩ := hq i hi
        refine htx (List.all_eq_true.2 fun n hn => List.all_eq_true.1 hw n ?_)
        unfold DataW.weights
        rw [Tryd.underlying22]
        exact List.mem_cons_of_mem _ (List.mem_append_left _ (weights_mem_all (List.mem_map.2 ⟨y, hy, rfl⟩) hn))

set_option maxRecDepth 100000 in
theorem open_node {base : Nat} {v : Value} {d : DataW H} {p : List MemPlace} (hok : Value.okWide Tryd.prog W .any base 24 v) (h : DataW.Trod enc Tryd.prog W 0 (fun _ => true) true 24 v d p) :
    ∃ x : Nd, NdAt (Lt W.heap.size) W x v ∧ x.Kd ∧ ((d.weights Tryd.prog 24).all (· ≤ reachBytes) = true → x.Tx reachBytes) := by
  obtain ⟨cs, rfl, hsz⟩ := okWide_struct Tryd.underlying24 hok
  obtain ⟨fuel, hf⟩ := h
  obtain ⟨x, s, e, hk, hkd, htx⟩ := open_three (fun k _ => open_kids enc W k) hf
  have e' : cs = #[.int .i64 x.k, .string x.t, s] := by
    have : cs.toList = [.int .i64 x.k, .string x.t, s] := e
    exact Array.ext' this
  exact ⟨x, ⟨s, by rw [e'], hk⟩, hkd, htx⟩

set_option maxRecDepth 100000 in
theorem open_list {base : Nat} {v : Value} {d : DataW H} {p : List MemPlace} (hok : Value.okWide Tryd.prog W .any base 25 v) (h : DataW.Trod enc Tryd.prog W 0 (fun _ => true) true 25 v d p) :
    ∃ l : List Int, IntsAt (Lt W.heap.size) W v l := by
  obtain ⟨a0, len, cap, rfl⟩ := okWide_slice Tryd.underlying25 hok
  obtain ⟨fuel, hf⟩ := h
  rcases open_ints Tryd.underlying25 Tryd.underlying3 cellsI hf with ⟨hcs, hx⟩ | ⟨a, len', cap', zs, hcs, _, hl, hm, hz, hx, hcell, hwz⟩
  · simp [Value.cells] at hcs
    obtain ⟨rfl, rfl, rfl⟩ := hcs
    exact ⟨[], none, 0, rfl, Nat.zero_le _, Nat.zero_le _, fun h => absurd rfl h⟩
  · simp [Value.cells] at hcs
    obtain ⟨rfl, rfl, rfl⟩ := hcs
    simp only [if_true] at hz
    have hlen : (zs.take len).length = len := by rw [List.length_take]; omega
    refine ⟨zs.take len, some a, cap, by rw [hlen], by rw [hlen]; omega, by rw [hlen]; exact hl, fun hn => ?_⟩
    have hpos : 0 < len := by
      rcases Nat.eq_zero_or_pos len with h0 | h0
      · exact absurd (List.length_eq_zero_iff.1 (hlen.trans h0)) hn
      · exact h0
    obtain ⟨b, off, spot⟩ := a
    have hspot : spot = none := by simpa [Addr.add] using World.cell?_spot (hcell 0 (by omega))
    subst hspot
    have c0 := hcell 0 (by omega)
    rw [add_plain] at c0
    refine ⟨b, off, rfl, World.block_lt_of_cell? W _ c0, fun j z hj => ?_⟩
    have hj' : j < len := by
      have := (List.getElem?_eq_some_iff.1 hj).1
      omega
    have hz2 : zs.getD j 0 = z := by
      rw [List.getElem?_take_of_lt hj'] at hj
      simp [List.getD, hj]
    have := hcell j (by omega)
    rw [add_plain, hz2] at this
    exact this
end
end Go.Proofs.YtbdkemgfdghbkaaDoor.nd
