/-
  node: append(nil, p...) where p is a list of numbers, nil or not.
-/
import Derived.Test.YtbdkemgfdghbkaaDoorNdPaths
import Derived.Laws.AppendOwnNone
namespace Go.Proofs.YtbdkemgfdghbkaaDoor.nd
open Go.RowKit sx ed
set_option linter.unusedVariables false

theorem wpList_append_ints {w : World} {ops : Array Oper} {rest : List Oper} {o : Oper} {a : Act} {Q : Exit → Act → World → Prop} (hgd : o.guard = none) (s x : Operand)
    (ho : o.op = .call { callee := .builtin .append, args := #[s, x], argTypes := #[25, 25] })
    (S : Nat → Prop) (l : List Int) (u : Value) (hs : a.eval s = .slice none 0 0) (hx : a.eval x = u) (hu : IntsAt S w u l) (hl : l.length ≤ 1000000)
    (h : ∀ v' w', w'.ownsRow w.heap.size 3 1 v' l.length (l.map fun z => .int .i64 z) → Below w.heap.size w w' → wpList Tryd.prog ops Q rest (a.put o.dst v') w') : wpList Tryd.prog ops Q (o :: rest) a w := by
  obtain ⟨i0, hi, hz0, hz1, hz2⟩ := info_parts infoI
  obtain ⟨ao, cap, rfl, hm, hlc, hr⟩ := hu
  cases ao with
  | none =>
    have hn : l = [] := by
      cases l with
      | nil => rfl
      | cons z r => obtain ⟨g, o, e, _⟩ := hr (by simp); cases e
    subst hn
    have hrun : (Builtin.append_ #[25, 25] o.type #[.slice none 0 0, .slice none 0 cap]).run Tryd.prog w = .ok (.slice none 0 0) w := by
      simp [Builtin.append_, run_underlying Tryd.underlying25, sizeOf, typeInfo, hi, Builtin.lenOf, Builtin.firstCells]
    refine wpList_plain hgd fun K hK => ?_
    unfold Oper.wp
    simp [execOp, ho, resolve, invoke, builtin, hs, hx, hrun, Result.andThen]
    exact hK _ _ (h _ _ (World.ownsRow_nil _ _ _ _) (Below.refl _ _))
  | some b =>
    have hnews : ∀ j u, (l.map fun z => (Value.int .i64 z))[j]? = some u → w.cell? (b.add j) = some u := fun j u hj => by
      have hne : l ≠ [] := fun e => by rw [e] at hj; simp at hj
      obtain ⟨g, o, e, _, hc⟩ := hr hne
      cases e
      rw [List.getElem?_map, Option.map_eq_some_iff] at hj
      obtain ⟨z, hz, rfl⟩ := hj
      rw [addr_add]
      exact hc j z hz
    refine wpList_append_own_at _ hgd s x 25 ho w.heap.size 3 i0 _ 1 8 Tryd.underlying25 hi hz0 hz1 hz2 rfl (by decide) _ 0 [] hs (World.ownsRow_nil _ _ _ _) b l.length cap (l.map fun z => .int .i64 z) hx (by simp) hnews (by intro u hu; obtain ⟨z, _, rfl⟩ := List.mem_map.1 hu; rfl) (by unfold maxLen; omega) (by omega) (Nat.le_refl _) ?_
    intro v' w' hown' hgrow _ _
    rw [List.nil_append, Nat.zero_add] at hown'
    exact h v' w' hown' ((Below.refl _ w).grown hgrow (Nat.le_refl _) (fun j e => by cases e))
end Go.Proofs.YtbdkemgfdghbkaaDoor.nd
