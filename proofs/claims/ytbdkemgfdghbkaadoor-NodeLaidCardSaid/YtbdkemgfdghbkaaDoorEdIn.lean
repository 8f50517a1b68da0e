/-
  A region that draws its order, whose operations only read and whose callees only add: one walk, in the order of the text. No program.
-/
import Derived.Deep.QuietTactic
import Derived.BigQuiet
import Derived.WalkKit
namespace Go.Proofs.YtbdkemgfdghbkaaDoor.ed
open Go.RowKit

/-- A world in which all that was there is as it was. -/
structure In (W : World) where
  u : World
  h : Below W.heap.size W u

instance (W : World) : Nonempty (In W) := ⟨⟨W, Below.refl _ W⟩⟩
theorem In.cell {W : World} {p : Addr} {v : Value} (h : W.cell? p = some v) (x : In W) : x.u.cell? p = some v :=
  (x.h.cell (World.block_lt_of_cell? W p h)).trans h

theorem wp_region_in {P : Program} {id : Nat} {Q : Exit → Act → World → Prop} {a : Act} {w : World} {l : List Oper} (hm : P.follows .mixedOrders = true) (hB : Region.lexB .any l.toArray = true)
    (h : wpQuiet P l.toArray (fun w' => ∃ x : In w, w' = x.u) (fun a' => ∀ w', (∃ x : In w, w' = x.u) → Q .normal a' w') l a) : (Code.region id l.toArray true).wp P Q a w :=
  wp_region_quiet (C := fun w' => ∃ x : In w, w' = x.u) hm hB ⟨⟨w.drew, (Below.refl _ w).drew⟩, rfl⟩ (by simpa using h)

theorem Calls.in_of {P : Program} {f : FuncId} {args : Array Value} {W : World} {x : In W} {v : Value}
    (h : Calls P f args x.u fun e w' => e = .returned v ∧ Below x.u.heap.size x.u w') : Calls P f args x.u fun e w'' => e = .returned v ∧ ∃ y : In W, w'' = y.u :=
  h.mono fun _ w' ⟨he, hb⟩ => ⟨he, ⟨w', x.h.trans (hb.mono x.h.size)⟩, rfl⟩
theorem Calls.in_of_drew {P : Program} {f : FuncId} {args : Array Value} {W : World} {x : In W} {v : Value}
    (h : Calls P f args x.u fun e w' => e = .returned v ∧ ∃ nq, w' = x.u.drewN nq) : Calls P f args x.u fun e w'' => e = .returned v ∧ ∃ y : In W, w'' = y.u :=
  h.mono fun _ w' ⟨he, nq, hb⟩ => ⟨he, ⟨w', by rw [hb]; exact x.h.trans ⟨rfl, rfl, rfl, Nat.le_refl _, fun _ _ => rfl⟩⟩, rfl⟩
end Go.Proofs.YtbdkemgfdghbkaaDoor.ed
