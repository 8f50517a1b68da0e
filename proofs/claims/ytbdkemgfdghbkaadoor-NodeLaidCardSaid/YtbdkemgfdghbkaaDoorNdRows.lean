/-
  node: rows of nodes that a call owns; slices.Clone, slices.Grow at nodes.
-/
import Derived.Test.YtbdkemgfdghbkaaDoorNdSame
import Derived.Lib.AppendZeros
import Derived.Lib.SliceRun
import Derived.Laws.AppendOwnNone
import Derived.Maps.AppendAt
import Derived.IntWalk
namespace Go.Proofs.YtbdkemgfdghbkaaDoor.nd
open Go.RowKit sx
set_option linter.unusedVariables false

/-- Cells of nodes, one behind the other. -/
def CellsOf (S : Nat → Prop) (W : World) : Fo → List Value → Prop
  | .nil, L => L = []
  | .cons k t kids r, L => ∃ v L', L = .int .i64 k :: .string t :: v :: L' ∧ KidsAt S W kids v ∧ CellsOf S W r L'
theorem CellsOf.keep {S S' : Nat → Prop} {W W' : World} (hS : ∀ k, S k → S' k) (h : ∀ k, S k → W'.heap[k]? = W.heap[k]?) : ∀ {f : Fo} {L : List Value}, CellsOf S W f L → CellsOf S' W' f L
  | .nil, _, e => e
  | .cons _ _ _ _, _, ⟨v, L', e, hk, hr⟩ => ⟨v, L', e, hk.keep hS h, hr.keep hS h⟩
theorem CellsOf.len {S : Nat → Prop} {W : World} : ∀ {f : Fo} {L : List Value}, CellsOf S W f L → L.length = f.len * 3
  | .nil, _, e => by rw [show _ = [] from e]; rfl
  | .cons _ _ _ _, _, ⟨v, L', e, hk, hr⟩ => by rw [e]; have := CellsOf.len hr; simp [Fo.len, this]; omega
theorem CellsOf.one {S : Nat → Prop} {W : World} : ∀ {f : Fo} {L : List Value}, CellsOf S W f L → ∀ u ∈ L, u.oneCell' = true
  | .nil, _, e, u, hu => by rw [show _ = [] from e] at hu; cases hu
  | .cons _ _ _ _, _, ⟨v, L', e, ⟨ao, cap, hv, _⟩, hr⟩, u, hu => by
    rw [e] at hu
    simp only [List.mem_cons] at hu
    rcases hu with rfl | rfl | rfl | hu
    · rfl
    · rfl
    · rw [hv]; rfl
    · exact CellsOf.one hr u hu
theorem CellsOf.app {S : Nat → Prop} {W : World} : ∀ {f g : Fo} {L M : List Value}, CellsOf S W f L → CellsOf S W g M → CellsOf S W (f.app g) (L ++ M)
  | .nil, _, _, _, e, h => by rw [show _ = [] from e]; exact h
  | .cons _ _ _ _, _, _, _, ⟨v, L', e, hk, hr⟩, h => ⟨v, L' ++ _, by rw [e]; rfl, hk, CellsOf.app hr h⟩
theorem CellsOf.single {S : Nat → Prop} {W : World} {k : Int} {t : ByteArray} {kids : Fo} {v : Value} (h : KidsAt S W kids v) : CellsOf S W (.cons k t kids .nil) [.int .i64 k, .string t, v] := ⟨v, [], rfl, h, rfl⟩
theorem CellsOf.snoc {S : Nat → Prop} {W : World} {f : Fo} {L : List Value} {x : Nd} {v : Value} (h : CellsOf S W f L) (hx : KidsAt S W x.kids v) :
    CellsOf S W (f.app (.cons x.k x.t x.kids .nil)) (L ++ [.int .i64 x.k, .string x.t, v]) := h.app (CellsOf.single hx)
theorem CellsOf.row {S : Nat → Prop} {W : World} {g : Nat} : ∀ {f : Fo} {L : List Value} {o : Nat}, CellsOf S W f L → (∀ j u, L[j]? = some u → W.cell? ⟨g, o + j, none⟩ = some u) → RowAt S W g o f
  | .nil, _, _, _, _ => trivial
  | .cons k t kids r, _, o, ⟨v, L', e, hk, hr⟩, h => by
    obtain ⟨ao, cap, rfl, hm, hx⟩ := hk
    subst e
    refine ⟨by simpa using h 0 _ rfl, by simpa using h 1 _ rfl, ⟨ao, cap, by simpa using h 2 _ rfl, hm, hx⟩, CellsOf.row hr fun j u hj => ?_⟩
    have := h (j + 3) u (by simpa using hj)
    rw [show o + 3 + j = o + (j + 3) by omega]
    exact this
theorem RowAt.cellsOf {S : Nat → Prop} {W : World} {g : Nat} : ∀ {f : Fo} {o : Nat}, RowAt S W g o f → ∃ L, CellsOf S W f L ∧ ∀ j u, L[j]? = some u → W.cell? ⟨g, o + j, none⟩ = some u
  | .nil, _, _ => ⟨[], rfl, fun j u h => by simp at h⟩
  | .cons k t kids r, o, ⟨h0, h1, ⟨ao, cap, h2, hm, h3⟩, h4⟩ => by
    obtain ⟨L, hL, hc⟩ := RowAt.cellsOf h4
    refine ⟨.int .i64 k :: .string t :: .slice ao kids.len cap :: L, ⟨_, L, rfl, ⟨ao, cap, rfl, hm, h3⟩, hL⟩, fun j u hj => ?_⟩
    match j, hj with
    | 0, hj => cases hj; exact h0
    | 1, hj => cases hj; exact h1
    | 2, hj => cases hj; exact h2
    | j + 3, hj =>
      have := hc j u (by simpa using hj)
      rw [show o + (j + 3) = o + 3 + j by omega]
      exact this
theorem addr_add (g o j : Nat) : (⟨g, o, none⟩ : Addr).add j = ⟨g, o + j, none⟩ := by
  unfold Addr.add
  by_cases hj : j = 0
  · subst hj; rfl
  · simp [hj]
/-- Nodes that lie in a row that a call owns. -/
theorem own_kids {S S' : Nat → Prop} {W : World} {base : Nat} {e : TypeId} {v : Value} {f : Fo} {L : List Value} (h : W.ownsRow base e 3 v f.len L) (hc : CellsOf S W f L) (hS : ∀ k, S k → S' k) (hv : ∀ k, v.ownBlock = some k → S' k) : KidsAt S' W f v := by
  rcases h.2 with ⟨rfl, h0⟩ | ⟨g, cap, cur, rfl, h2, h3, h4, h5, h6, h7⟩
  · rw [Fo.len_zero h0]; exact kids_nil _ _ _ _
  · refine ⟨_, cap, rfl, Nat.le_trans h4 h5, fun hn => ⟨g, 0, rfl, hv g rfl, (CellsOf.row (o := 0) hc fun j u hj => ?_).keep hS (fun _ _ => rfl) rfl⟩⟩
    have := h.cells (g := g) rfl j u hj
    rw [addr_add] at this
    exact this

theorem infoN : (Tryd.prog.info? 24).map (fun i => (i.zero, i.size, i.bytes)) = some (some (.agg #[.int .i64 0, .string ⟨#[]⟩, .slice none 0 0]), 3, 48) := by kernel_rfl

theorem own_len' {W : World} {base size n : Nat} {e : TypeId} {v : Value} {xs : List Value} (h : W.ownsRow base e size v n xs) : ∃ ao cap, v = .slice ao n cap ∧ n ≤ cap := by
  rcases h.2 with ⟨rfl, h0⟩ | ⟨g, cap, cur, rfl, h2, h3, h4⟩
  · exact ⟨none, 0, by rw [h0], by omega⟩
  · exact ⟨_, cap, rfl, h4.1⟩
/-- A new list of nodes: a row of its own, beyond base. -/
def OwnKids (base : Nat) (S : Nat → Prop) (W : World) (f : Fo) (v : Value) : Prop := ∃ L, W.ownsRow base 24 3 v f.len L ∧ CellsOf S W f L
theorem OwnKids.kids {base : Nat} {S S' : Nat → Prop} {W : World} {f : Fo} {v : Value} (h : OwnKids base S W f v) (hS : ∀ k, S k → S' k) (hv : ∀ k, base ≤ k → k < W.heap.size → S' k) : KidsAt S' W f v := by
  obtain ⟨L, h1, h2⟩ := h
  exact own_kids h1 h2 hS (fun k hk => hv k (h1.lt k hk).1 (h1.lt k hk).2)

set_option maxRecDepth 100000 in
set_option maxHeartbeats 4000000 in
theorem cloneN_calls (f : Fo) (hn : f ≠ .nil) (hl : f.len * 48 ≤ 140737488355328) (S : Nat → Prop) (w : World) (u : Value) (hu : KidsAt S w f u) :
    Calls Tryd.prog 35 #[u] w fun e w' => ∃ v, e = .returned v ∧ (∃ L, w'.ownsRow w.heap.size 24 3 v f.len L ∧ CellsOf S w f L) ∧ Below w.heap.size w w' := by
  obtain ⟨ao, cap, rfl, hm, hr⟩ := hu
  obtain ⟨g, o, rfl, hs, hr⟩ := hr hn
  obtain ⟨L, hL, hc⟩ := hr.cellsOf
  have hlen := hL.len
  have hone := hL.one
  obtain ⟨i0, hi, hz0, hz1, hz2⟩ := info_parts infoN
  obtain ⟨m, hmm⟩ : ∃ m, f.len = m := ⟨_, rfl⟩
  rw [hmm] at hlen hm hl ⊢
  unfold maxLen at hm
  have hm1 : 0 < m := by
    cases f with
    | nil => exact absurd rfl hn
    | cons _ _ _ _ => simp [Fo.len] at hmm; omega
  have HL := Lib.hid hL; have HLEN := Lib.hid hlen; have HC := Lib.hid hc
  have hg : g < w.heap.size := hr.lt hn
  clear hL hlen hc hmm hr hs hn
  have heq := fun W => Lib.run_eql_slice_nil (P := Tryd.prog) W 22 24 (some ⟨g, o, none⟩) m cap 0 0 Tryd.underlying22
  have hrow0 : (w.alloc (.cells #[] 24)).ownsRow w.heap.size 24 3 (.slice (some ⟨w.heap.size, 0, none⟩) 0 0) 0 [] := World.ownsRow_made w #[] 0 (Nat.le_refl _) (Nat.zero_le _) rfl
  have hb0 : Below w.heap.size w (w.alloc (.cells #[] 24)) := (Below.refl _ w).alloc (Nat.le_refl _) _
  have HN := Lib.hid (fun j u (hj : L[j]? = some u) => show (w.alloc (.cells #[] 24)).cell? ((⟨g, o, none⟩ : Addr).add j) = some u by rw [addr_add]; exact (hb0.cell (p := ⟨g, _, none⟩) hg).trans (HC.out j u hj))
  have HB0 := Lib.hid hb0
  clear hb0
  go_enter Tryd.func35, Tryd.ntmps35
  go_wp2_with (at_builtin; refine wpList_append_own _ rfl _ _ 22 rfl w.heap.size 24 i0 _ 3 48 Tryd.underlying22 hi hz0 hz1 hz2 rfl (by decide) _ _ _ rfl hrow0 ⟨g, o, none⟩ m cap L rfl HLEN.out HN.out hone (by unfold maxLen; omega) (by omega) (by simp) ?_; intro v' w' hown' hgrow _; rw [List.nil_append, Nat.zero_add] at hown'; obtain ⟨ao', cap', rfl, _⟩ := own_len' hown')
  have HO := Lib.hid hown'
  clear hown'
  go_ret
  exact ⟨_, rfl, ⟨L, HO.out, HL.out⟩, HB0.out.grown hgrow (Nat.le_of_lt (by simp)) (fun k hk => (hrow0.lt k hk).1)⟩

set_option maxRecDepth 100000 in
set_option maxHeartbeats 4000000 in
theorem growN_calls (m : Nat) (hm : m * 48 ≤ 140737488355328) (w : World) :
    Calls Tryd.prog 49 #[.slice none 0 0, .int .i64 (m : Int)] w fun e w' => ∃ v, e = .returned v ∧ w'.ownsRow w.heap.size 24 3 v 0 [] ∧ Below w.heap.size w w' := by
  by_cases h0 : m = 0
  · subst h0
    go_enter Tryd.func49, Tryd.ntmps49
    go_wp2_with fail
    go_ret
    exact ⟨_, rfl, World.ownsRow_nil _ _ _ _, Below.refl _ _⟩
  · obtain ⟨i0, hi, hz0, hz1, hz2⟩ := info_parts infoN
    have hm1 : 0 < m := by omega
    have hp : (0 : Int) < (m : Int) := by omega
    have hn : ¬ ((m : Int) < 0) := by omega
    have hr := Lib.run_append_nil_zeros (P := Tryd.prog) w 22 3 22 24 i0 _ .i64 .i64 Tryd.underlying22 Tryd.underlying3 hi hz0 m hm1 (by rw [hz1]; omega) (by omega) (by rw [hz2]; omega)
    have hge := grownCap_ge w m 0 24
    have hle := grownCap_le_maxLen w m 0 24 (by unfold maxLen; omega)
    obtain ⟨c, hc⟩ : ∃ c, grownCap w m 0 24 = c := ⟨_, rfl⟩
    rw [hc] at hr hge hle
    have HR := Lib.hid hr; have HLE := Lib.hid hle
    clear hr hle hc h0
    go_enter Tryd.func49, Tryd.ntmps49
    go_wp2_with (at_builtin; refine Lib.wpList_append_run _ rfl _ _ 22 3 rfl _ _ rfl rfl _ _ HR.out ?_)
    go_ret
    refine ⟨_, rfl, ?_, ((Below.refl _ w).drew).alloc (by simp) _⟩
    refine ⟨rfl, .inr ⟨w.heap.size, c, _, rfl, Nat.le_refl _, heap_alloc_new w.drew _, Nat.zero_le _, HLE.out, ?_, rfl⟩⟩
    simp [size_zeroCells]
    omega
end Go.Proofs.YtbdkemgfdghbkaaDoor.nd
