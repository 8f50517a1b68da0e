/-
  node: trees in memory. No program's function.
-/
import Derived.Test.YtbdkemgfdghbkaaDoorNdSpec
import Derived.Test.YtbdkemgfdghbkaaDoorSeqX
import Derived.WalkKit
namespace Go.Proofs.YtbdkemgfdghbkaaDoor.nd
open Go.RowKit sx
set_option linter.unusedVariables false

/-- Nodes that lie one behind the other in block g from cell o on; what they lead to lies in blocks that S names. -/
def RowAt (S : Nat → Prop) (W : World) (g : Nat) : Nat → Fo → Prop
  | _, .nil => True
  | o, .cons k t kids r => W.cell? ⟨g, o, none⟩ = some (.int .i64 k) ∧ W.cell? ⟨g, o + 1, none⟩ = some (.string t) ∧
      (∃ ao cap, W.cell? ⟨g, o + 2, none⟩ = some (.slice ao kids.len cap) ∧ kids.len ≤ maxLen ∧ (kids ≠ .nil → ∃ g' o', ao = some ⟨g', o', none⟩ ∧ S g' ∧ RowAt S W g' o' kids)) ∧ RowAt S W g (o + 3) r
/-- A list of nodes. -/
def KidsAt (S : Nat → Prop) (W : World) (f : Fo) (v : Value) : Prop :=
  ∃ ao cap, v = .slice ao f.len cap ∧ f.len ≤ maxLen ∧ (f ≠ .nil → ∃ g o, ao = some ⟨g, o, none⟩ ∧ S g ∧ RowAt S W g o f)
/-- A node. -/
def NdAt (S : Nat → Prop) (W : World) (x : Nd) (v : Value) : Prop := ∃ s, v = .agg #[.int .i64 x.k, .string x.t, s] ∧ KidsAt S W x.kids s

theorem RowAt.keep {S S' : Nat → Prop} {W W' : World} (hS : ∀ k, S k → S' k) (h : ∀ k, S k → W'.heap[k]? = W.heap[k]?) : ∀ {f : Fo} {g o : Nat}, RowAt S W g o f → W'.heap[g]? = W.heap[g]? → RowAt S' W' g o f
  | .nil, _, _, _, _ => trivial
  | .cons k t kids r, g, o, ⟨h0, h1, ⟨ao, cap, h2, hm, h3⟩, h4⟩, hg => by
    have hc : ∀ j, W'.cell? ⟨g, j, none⟩ = W.cell? ⟨g, j, none⟩ := fun j => by simp [World.cell?, hg]
    exact ⟨(hc _).trans h0, (hc _).trans h1, ⟨ao, cap, (hc _).trans h2, hm, fun hn => by
      obtain ⟨g', o', e, hs, hr⟩ := h3 hn
      exact ⟨g', o', e, hS _ hs, hr.keep hS h (h _ hs)⟩⟩, RowAt.keep hS h h4 hg⟩
theorem KidsAt.keep {S S' : Nat → Prop} {W W' : World} {f : Fo} {v : Value} (hk : KidsAt S W f v) (hS : ∀ k, S k → S' k) (h : ∀ k, S k → W'.heap[k]? = W.heap[k]?) : KidsAt S' W' f v := by
  obtain ⟨ao, cap, e, hm, hr⟩ := hk
  exact ⟨ao, cap, e, hm, fun hn => by
    obtain ⟨g, o, e', hs, hr'⟩ := hr hn
    exact ⟨g, o, e', hS _ hs, hr'.keep hS h (h _ hs)⟩⟩
theorem NdAt.keep {S S' : Nat → Prop} {W W' : World} {x : Nd} {v : Value} (hk : NdAt S W x v) (hS : ∀ k, S k → S' k) (h : ∀ k, S k → W'.heap[k]? = W.heap[k]?) : NdAt S' W' x v := by
  obtain ⟨s, e, hs⟩ := hk
  exact ⟨s, e, hs.keep hS h⟩
/-- Below a bound. -/
abbrev Lt (n : Nat) (k : Nat) : Prop := k < n
theorem KidsAt.below {n m : Nat} {W W' : World} {f : Fo} {v : Value} (h : KidsAt (Lt n) W f v) (hb : Below m W W') (hm : n ≤ m) : KidsAt (Lt n) W' f v := h.keep (fun _ e => e) (fun k hk => hb.block k (Nat.lt_of_lt_of_le hk hm))
theorem NdAt.below {n m : Nat} {W W' : World} {x : Nd} {v : Value} (h : NdAt (Lt n) W x v) (hb : Below m W W') (hm : n ≤ m) : NdAt (Lt n) W' x v := h.keep (fun _ e => e) (fun k hk => hb.block k (Nat.lt_of_lt_of_le hk hm))
theorem RowAt.lt {S : Nat → Prop} {W : World} {g o : Nat} {f : Fo} (h : RowAt S W g o f) (hn : f ≠ .nil) : g < W.heap.size := by
  cases f with
  | nil => exact absurd rfl hn
  | cons k t kids r => exact World.block_lt_of_cell? W _ h.1
theorem RowAt.toLt {S : Nat → Prop} {W : World} : ∀ {f : Fo} {g o : Nat}, RowAt S W g o f → RowAt (Lt W.heap.size) W g o f
  | .nil, _, _, _ => trivial
  | .cons k t kids r, g, o, ⟨h0, h1, ⟨ao, cap, h2, hm, h3⟩, h4⟩ => ⟨h0, h1, ⟨ao, cap, h2, hm, fun hn => by
      obtain ⟨g', o', e, hs, hr⟩ := h3 hn
      exact ⟨g', o', e, hr.lt hn, hr.toLt⟩⟩, h4.toLt⟩
theorem KidsAt.toLt {S : Nat → Prop} {W : World} {f : Fo} {v : Value} (h : KidsAt S W f v) : KidsAt (Lt W.heap.size) W f v := by
  obtain ⟨ao, cap, e, hm, hr⟩ := h
  exact ⟨ao, cap, e, hm, fun hn => by
    obtain ⟨g, o, e', hs, hr'⟩ := hr hn
    exact ⟨g, o, e', hr'.lt hn, hr'.toLt⟩⟩
theorem NdAt.toLt {S : Nat → Prop} {W : World} {x : Nd} {v : Value} (h : NdAt S W x v) : NdAt (Lt W.heap.size) W x v := by
  obtain ⟨s, e, hs⟩ := h
  exact ⟨s, e, hs.toLt⟩
theorem KidsAt.mono {n m : Nat} {W : World} {f : Fo} {v : Value} (h : KidsAt (Lt n) W f v) (hm : n ≤ m) : KidsAt (Lt m) W f v := h.keep (fun _ e => Nat.lt_of_lt_of_le e hm) (fun _ _ => rfl)
theorem NdAt.mono {n m : Nat} {W : World} {x : Nd} {v : Value} (h : NdAt (Lt n) W x v) (hm : n ≤ m) : NdAt (Lt m) W x v := h.keep (fun _ e => Nat.lt_of_lt_of_le e hm) (fun _ _ => rfl)

theorem RowAt.get {S : Nat → Prop} {W : World} {g : Nat} : ∀ {f : Fo} {o i : Nat} {x : Nd}, RowAt S W g o f → f.get? i = some x →
    ∃ s, W.cell? ⟨g, o + i * 3, none⟩ = some (.int .i64 x.k) ∧ W.cell? ⟨g, o + i * 3 + 1, none⟩ = some (.string x.t) ∧ W.cell? ⟨g, o + i * 3 + 2, none⟩ = some s ∧ KidsAt S W x.kids s
  | .nil, _, _, _, _, h => by cases h
  | .cons k t kids r, o, 0, _, ⟨h0, h1, ⟨ao, cap, h2, hm, h3⟩, _⟩, h => by
    cases h
    exact ⟨_, by simpa using h0, by simpa using h1, by simpa using h2, ao, cap, rfl, hm, h3⟩
  | .cons k t kids r, o, i + 1, x, ⟨_, _, _, h4⟩, h => by
    obtain ⟨s, a, b, c, d⟩ := RowAt.get (i := i) (x := x) h4 h
    have e : o + 3 + i * 3 = o + (i + 1) * 3 := by omega
    rw [e] at a b c
    exact ⟨s, a, b, c, d⟩
/-- A row is there, if each of its nodes is. -/
theorem RowAt.of {S : Nat → Prop} {W : World} {g : Nat} : ∀ {f : Fo} {o : Nat}, (∀ i x, f.get? i = some x →
    ∃ s, W.cell? ⟨g, o + i * 3, none⟩ = some (.int .i64 x.k) ∧ W.cell? ⟨g, o + i * 3 + 1, none⟩ = some (.string x.t) ∧ W.cell? ⟨g, o + i * 3 + 2, none⟩ = some s ∧ KidsAt S W x.kids s) → RowAt S W g o f
  | .nil, _, _ => trivial
  | .cons k t kids r, o, h => by
    obtain ⟨s, a, b, c, ao, cap, rfl, hm, hr⟩ := h 0 ⟨k, t, kids⟩ rfl
    refine ⟨by simpa using a, by simpa using b, ⟨ao, cap, by simpa using c, hm, hr⟩, RowAt.of fun i x hi => ?_⟩
    obtain ⟨s, a, b, c, d⟩ := h (i + 1) x hi
    have e : o + (i + 1) * 3 = o + 3 + i * 3 := by omega
    rw [e] at a b c
    exact ⟨s, a, b, c, d⟩
/-- A list of nodes, opened. -/
theorem KidsAt.get {S : Nat → Prop} {W : World} {f : Fo} {ao : Option Addr} {len cap i : Nat} {x : Nd} (h : KidsAt S W f (.slice ao len cap)) (hx : f.get? i = some x) :
    ∃ g o ao' cap', ao = some ⟨g, o, none⟩ ∧ S g ∧ g < W.heap.size ∧ W.cell? ⟨g, o + i * 3, none⟩ = some (.int .i64 x.k) ∧ W.cell? ⟨g, o + i * 3 + 1, none⟩ = some (.string x.t) ∧ W.cell? ⟨g, o + i * 3 + 2, none⟩ = some (.slice ao' x.kids.len cap') ∧ KidsAt S W x.kids (.slice ao' x.kids.len cap') := by
  obtain ⟨ao', cap', e, hm, hr⟩ := h
  cases e
  obtain ⟨g, o, e, hs, hr⟩ := hr (fun e => by rw [e] at hx; cases hx)
  obtain ⟨s, a, b, c, d⟩ := hr.get hx
  obtain ⟨ao', cap', rfl, _⟩ := id d
  exact ⟨g, o, ao', cap', e, hs, World.block_lt_of_cell? W _ a, a, b, c, d⟩
theorem KidsAt.slice {S : Nat → Prop} {W : World} {f : Fo} {v : Value} (h : KidsAt S W f v) : ∃ ao cap, v = .slice ao f.len cap ∧ f.len ≤ maxLen := by
  obtain ⟨ao, cap, e, hm, _⟩ := h
  exact ⟨ao, cap, e, hm⟩
theorem NdAt.mk {S : Nat → Prop} {W : World} {k : Int} {t : ByteArray} {f : Fo} {s : Value} (h : KidsAt S W f s) : NdAt S W ⟨k, t, f⟩ (.agg #[.int .i64 k, .string t, s]) := ⟨s, rfl, h⟩
theorem kids_nil (S : Nat → Prop) (W : World) (ao : Option Addr) (cap : Nat) : KidsAt S W .nil (.slice ao 0 cap) := ⟨ao, cap, rfl, Nat.zero_le _, fun h => absurd rfl h⟩
end Go.Proofs.YtbdkemgfdghbkaaDoor.nd
