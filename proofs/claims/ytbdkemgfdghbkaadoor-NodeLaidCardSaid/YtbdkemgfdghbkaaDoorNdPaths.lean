/-
  node: Paths.
-/
import Derived.Test.YtbdkemgfdghbkaaDoorNdCount
import Derived.Test.YtbdkemgfdghbkaaDoorRegionInv
import Derived.Test.YtbdkemgfdghbkaaDoorSeqAll
import Derived.Test.YtbdkemgfdghbkaaDoorShelf
import Derived.Maps.AppendAt
namespace Go.Proofs.YtbdkemgfdghbkaaDoor.nd
open Go.RowKit Go.Shelf sx ed
attribute [local go_sem] Oper.semAt_some
set_option linter.unusedVariables false

def ints (l : List Nat) : List Int := l.map fun (n : Nat) => (n : Int)
/-- Fresh: laid between two worlds. -/
def Frsh (a b : Nat) (k : Nat) : Prop := a ≤ k ∧ k < b
theorem cloneI_calls (S : Nat → Prop) (l : List Int) (hl : l.length ≤ 1000000) (w : World) (u : Value) (hu : IntsAt S w u l) :
    Calls Tryd.prog 33 #[u] w fun e w' => ∃ ao cap, e = .returned (.slice ao l.length cap) ∧ IntsAt (Frsh w.heap.size w'.heap.size) w' (.slice ao l.length cap) l ∧ Below w.heap.size w w' := by
  obtain ⟨ao, cap, rfl, hm, hlc, hr⟩ := hu
  by_cases hn : l = []
  · subst hn
    cases ao with
    | none =>
      refine (Tryd.slices_Clone_int_nil 0 cap w).mono ?_
      rintro e w' ⟨rfl, rfl⟩
      exact ⟨none, 0, rfl, ⟨none, 0, rfl, Nat.zero_le _, Nat.le_refl _, fun h => absurd rfl h⟩, Below.refl _ _⟩
    | some a =>
      refine (Tryd.slices_Clone_int_zero a cap w).mono ?_
      rintro e w' ⟨v, rfl, ho, _, hb⟩
      obtain ⟨ao, c, rfl, _⟩ := own_len' ho
      exact ⟨ao, c, rfl, ⟨ao, c, rfl, Nat.zero_le _, Nat.zero_le _, fun h => absurd rfl h⟩, hb⟩
  · obtain ⟨g, o, rfl, _, hc⟩ := hr hn
    refine (Tryd.slices_Clone_int g o l.length cap l w (Nat.le_refl _) (by omega) (fun j hj => hc j _ (by rw [List.getD_eq_getElem?_getD, List.getElem?_eq_getElem hj]; rfl))).mono ?_
    rintro e w' ⟨v, rfl, ho, _, hb⟩
    obtain ⟨ao, c, rfl, hcc⟩ := own_len' ho
    refine ⟨ao, c, rfl, ⟨ao, c, rfl, hm, hcc, fun _ => ?_⟩, hb⟩
    rcases ho.2 with ⟨_, h0⟩ | ⟨g', cap', cur, e, h2, h3, h4⟩
    · exact absurd (List.length_eq_zero_iff.1 h0) hn
    · cases e
      refine ⟨g', 0, rfl, ho.lt g' rfl, fun j z hj => ?_⟩
      have := ho.cells (g := g') rfl j (.int .i64 z) (by rw [List.take_length]; simp [hj])
      rw [addr_add] at this
      exact this

theorem infoP : (Tryd.prog.info? 25).map (fun i => (i.zero, i.size, i.bytes)) = some (some (.slice none 0 0), 1, 24) := by kernel_rfl
/-- Values of lists of numbers, in blocks that S names. -/
def ListsAt (S : Nat → Prop) (W : World) (L : List Value) (ps : List (List Int)) : Prop := L.length = ps.length ∧ ∀ (i : Nat) (q : List Int), ps[i]? = some q → ∃ cv, L[i]? = some cv ∧ IntsAt S W cv q
theorem ListsAt.keep {S S' : Nat → Prop} {W W' : World} {L : List Value} {ps : List (List Int)} (h : ListsAt S W L ps) (hS : ∀ k, S k → S' k) (hk : ∀ k, S k → W'.heap[k]? = W.heap[k]?) : ListsAt S' W' L ps :=
  ⟨h.1, fun i q hq => by obtain ⟨cv, h1, h2⟩ := h.2 i q hq; exact ⟨cv, h1, h2.keep hS hk⟩⟩
theorem ListsAt.snoc {S : Nat → Prop} {W : World} {L : List Value} {ps : List (List Int)} {cv : Value} {q : List Int} (h : ListsAt S W L ps) (hq : IntsAt S W cv q) : ListsAt S W (L ++ [cv]) (ps ++ [q]) := by
  refine ⟨by simp [h.1], fun i q' hq' => ?_⟩
  by_cases hi : i < ps.length
  · rw [List.getElem?_append_left hi] at hq'
    obtain ⟨c, h1, h2⟩ := h.2 i q' hq'
    exact ⟨c, by rw [List.getElem?_append_left (by rw [h.1]; exact hi)]; exact h1, h2⟩
  · rw [List.getElem?_append_right (by omega)] at hq'
    have hi0 : i - ps.length = 0 := by
      rcases Nat.eq_zero_or_pos (i - ps.length) with h | h
      · exact h
      · rw [List.getElem?_eq_none (by simp; omega)] at hq'; cases hq'
    rw [hi0] at hq'
    cases hq'
    exact ⟨cv, by rw [List.getElem?_append_right (by rw [h.1]; omega), h.1, hi0]; rfl, hq⟩
/-- Blocks of the lists: beyond G, there, not the iterator's, not the row's own. -/
def SP (G : Nat) (D : Nat → Prop) (v : Value) (W : World) (k : Nat) : Prop := G ≤ k ∧ k < W.heap.size ∧ ¬ D k ∧ v.ownBlock ≠ some k
/-- Between two rounds of Paths. -/
def PI (w : World) (N G : Nat) (pre : List Told) (D : Nat → Prop) (W : World) : Prop :=
  (∃ v L, BX N 30 v D W ∧ W.ownsRow G 25 1 v pre.length L ∧ (∀ k, v.ownBlock = some k → ¬ D k) ∧ ListsAt (SP G D v W) W L (pre.map fun x => ints x.1) ∧ G ≤ W.heap.size) ∧ IB w D W
theorem PI.ab (w : World) (N G : Nat) : AbD (PI w N G) := fun s D D' A B ⟨⟨v, L, h1, h2, h3, h4, h6⟩, h5⟩ hb hD => by
  refine ⟨⟨v, L, h1.ab hb hD, own_keep h2 (fun k e => hb.block k (h2.lt k e).2 (h3 k e)), fun k e hd => ?_, h4.keep (fun k hk => ⟨hk.1, Nat.lt_of_lt_of_le hk.2.1 hb.size, fun hd => ?_, hk.2.2.2⟩) (fun k hk => hb.block k hk.2.1 hk.2.2.1), Nat.le_trans h6 hb.size⟩, h5.ab hb hD⟩
  · rcases hD k hd with h | h
    · exact h3 k e h
    · have := (h2.lt k e).2; omega
  · rcases hD k hd with h | h
    · exact hk.2.2.1 h
    · have := hk.2.1; omega
theorem ints_own {S : Nat → Prop} {X Y : World} {row : Option Nat} {v : Value} {l : List Int} (h : IntsAt S X v l) (hg : X.grownBy Y row) (hr : ∀ r, row = some r → ∃ o : Obj, X.heap[r]? = some o ∧ o.isCells = false) : IntsAt S Y v l := by
  obtain ⟨ao, cap, e, hm, hlc, hx⟩ := h
  refine ⟨ao, cap, e, hm, hlc, fun hn => ?_⟩
  obtain ⟨g, o, e', hs, hc⟩ := hx hn
  exact ⟨g, o, e', hs, fun j z hj => cell_kept (hc j z hj) hg hr⟩
theorem PI.own (w : World) (N G B : Nat) (hB : w.heap.size ≤ B) (D : Nat → Prop) : OwnFrom B (fun s W => PI w N G s D W) := fun s X Y row ⟨⟨v, L, h1, h2, h3, h4, h6⟩, h5⟩ hg hr =>
  ⟨⟨v, L, h1.own hg (fun r e => (hr r e).2), row_own G 25 1 (fun (_ : Unit) => v) (fun _ => s.length) (fun _ => L) () X Y row h2 hg (fun r e => (hr r e).2), h3, ⟨h4.1, fun i q hq => by
    obtain ⟨cv, e1, e2⟩ := h4.2 i q hq
    exact ⟨cv, e1, ints_own (e2.keep (fun k hk => ⟨hk.1, Nat.lt_of_lt_of_le hk.2.1 hg.size, hk.2.2⟩) (fun _ _ => rfl)) hg (fun r e => (hr r e).2)⟩⟩, Nat.le_trans h6 hg.size⟩, h5.own hB hg (fun r e => (hr r e).1)⟩
end Go.Proofs.YtbdkemgfdghbkaaDoor.nd
