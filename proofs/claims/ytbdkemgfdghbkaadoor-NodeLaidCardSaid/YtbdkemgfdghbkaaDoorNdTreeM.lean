/-
  node: a list of nodes whose end becomes a node's Kids. No program's function.
-/
import Derived.Test.YtbdkemgfdghbkaaDoorNdTree0
import Derived.Test.YtbdkemgfdghbkaaDoorNdClone
import Derived.Test.YtbdkemgfdghbkaaDoorNdBuild
namespace Go.Proofs.YtbdkemgfdghbkaaDoor.nd
open Go.RowKit sx ed
set_option linter.unusedVariables false

theorem CellsOf.take {S : Nat → Prop} {W : World} : ∀ {f : Fo} {L : List Value} (i : Nat), CellsOf S W f L → CellsOf S W (f.take i) (L.take (i * 3))
  | f, L, 0, _ => by cases f <;> simp [Fo.take, CellsOf]
  | .nil, L, i + 1, e => by rw [show L = [] from e]; simp [Fo.take, CellsOf]
  | .cons k t kids r, L, i + 1, ⟨v, L', e, hk, hr⟩ => by
    subst e
    refine ⟨v, L'.take (i * 3), ?_, hk, CellsOf.take i hr⟩
    rw [show (i + 1) * 3 = i * 3 + 1 + 1 + 1 by omega]
    rfl
theorem CellsOf.drop {S : Nat → Prop} {W : World} : ∀ {f : Fo} {L : List Value} (i : Nat), CellsOf S W f L → CellsOf S W (f.drop i) (L.drop (i * 3))
  | f, L, 0, h => by
    rw [Nat.zero_mul, List.drop_zero]
    cases f <;> exact h
  | .nil, L, i + 1, e => by rw [show L = [] from e]; simp [Fo.drop, CellsOf]
  | .cons k t kids r, L, i + 1, ⟨v, L', e, hk, hr⟩ => by
    subst e
    rw [show (i + 1) * 3 = i * 3 + 1 + 1 + 1 by omega]
    exact CellsOf.drop i hr
theorem own_take {W : World} {N g m cap q : Nat} {e : TypeId} {L : List Value} (h : W.ownsRow N e 3 (.slice (some ⟨g, 0, none⟩) m cap) m L) (hq : q ≤ m) : W.ownsRow N e 3 (.slice (some ⟨g, 0, none⟩) q cap) q (L.take (q * 3)) := by
  have hl := h.1
  refine ⟨by rw [List.length_take]; omega, .inr ?_⟩
  rcases h.2 with ⟨e, _⟩ | ⟨g', cap', cur, e, h2, h3, h4, h5, h6, h7⟩
  · cases e
  · cases e
    refine ⟨g, cap, cur, rfl, h2, h3, by omega, h5, h6, ?_⟩
    rw [← h7, List.take_take]
    congr 1
    omega
theorem tree_mid {N m k q g cap : Nat} {wr W2 Wa : World} {l : Fo} {L : List Value} {v' : Value}
    (hown : wr.ownsRow N 24 3 (.slice (some ⟨g, 0, none⟩) m cap) m L) (hL : CellsOf (Priv N wr (.slice (some ⟨g, 0, none⟩) m cap)) wr l L) (hlm : l.len = m) (hq : q ≤ m) (hk : m - q = k) (hN : N ≤ wr.heap.size) (hb2 : Below wr.heap.size wr W2)
    (hs : W2.heap.size = wr.heap.size + 1) (hown' : Wa.ownsRow W2.heap.size 24 3 v' k (L.drop (q * 3))) (hba : Below W2.heap.size W2 Wa) :
    (Wa.setCell ⟨wr.heap.size, 2, none⟩ v').ownsRow N 24 3 (.slice (some ⟨g, 0, none⟩) q cap) q (L.take (q * 3)) ∧
      CellsOf (Priv N (Wa.setCell ⟨wr.heap.size, 2, none⟩ v') (.slice (some ⟨g, 0, none⟩) q cap)) (Wa.setCell ⟨wr.heap.size, 2, none⟩ v') (l.take q) (L.take (q * 3)) ∧
      KidsAt (Priv N (Wa.setCell ⟨wr.heap.size, 2, none⟩ v') (.slice (some ⟨g, 0, none⟩) q cap)) (Wa.setCell ⟨wr.heap.size, 2, none⟩ v') (l.drop q) v' ∧ Below wr.heap.size wr (Wa.setCell ⟨wr.heap.size, 2, none⟩ v') := by
  have hb : Below wr.heap.size wr (Wa.setCell ⟨wr.heap.size, 2, none⟩ v') := (hb2.trans (hba.mono hb2.size)).setCell (p := ⟨wr.heap.size, 2, none⟩) (Nat.le_refl _) _
  have hbs := hb.size
  have hg := (hown.lt g rfl).2
  have has := hba.size
  have hkp : ∀ j, Priv N wr (.slice (some ⟨g, 0, none⟩) m cap) j → Priv N (Wa.setCell ⟨wr.heap.size, 2, none⟩ v') (.slice (some ⟨g, 0, none⟩) q cap) j := fun j hj => ⟨hj.1, by have := hj.2.1; omega, hj.2.2⟩
  have hL3 := hL.keep hkp (fun j hj => hb.block j hj.2.1)
  refine ⟨own_keep (own_take hown hq) (fun j e => hb.block j (by cases e; exact hg)), hL3.take q, ?_, hb⟩
  have hlen : (l.drop q).len = k := by rw [Fo.drop_len, hlm, hk]
  have ho3 : (Wa.setCell ⟨wr.heap.size, 2, none⟩ v').ownsRow W2.heap.size 24 3 v' (l.drop q).len (L.drop (q * 3)) := by
    rw [hlen]
    exact own_keep hown' (fun j e => Below.heap_setCell _ _ _ j (fun e' => by have := (hown'.lt j e).1; have e2 : j = wr.heap.size := e'; omega))
  exact own_kids ho3 (hL3.drop q) (fun _ h => h) (fun j e => by
    have h1 := ho3.lt j e
    refine ⟨by omega, h1.2, fun e2 => ?_⟩
    have e3 : g = j := by simpa [Value.ownBlock] using e2
    have h2 := h1.1
    omega)
end Go.Proofs.YtbdkemgfdghbkaaDoor.nd
