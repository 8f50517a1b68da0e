/- Ground of the law: EdIn, UtfRune. -/
import Derived.Deep.QuietTactic
import Derived.BigQuiet
import Derived.WalkKit
import Derived.Lib.Hide
import Derived.Lib.RuneCount
import Derived.Laws.RangeAny
import Derived.Test.YtaecmhlglnmimaaQf00
set_option maxRecDepth 100000
set_option maxHeartbeats 8000000
set_option linter.unusedVariables false
set_option linter.unusedSimpArgs false
namespace Go.Proofs.Ytaecmhlglnmimaa.ed
open Go.RowKit
structure In (W : World) where
 u : World
 h : Below W.heap.size W u
instance (W : World) : Nonempty (In W):=⟨⟨W,Below.refl _ W⟩⟩
theorem In.cell {W : World} {p : Addr} {v : Value} (h : W.cell? p = some v) (x : In W) : x.u.cell? p = some v :=
 (x.h.cell (World.block_lt_of_cell? W p h)).trans h
theorem wp_region_in {P : Program} {id : Nat} {Q : Exit → Act → World → Prop} {a : Act} {w : World} {l : List Oper} (hm : P.follows .mixedOrders = true) (hB : Region.lexB .any l.toArray = true)
  (h : wpQuiet P l.toArray (fun w'=>∃ x : In w,w' = x.u) (fun a'=>∀ w',(∃ x : In w,w' = x.u) → Q .normal a' w') l a) : (Code.region id l.toArray true).wp P Q a w :=
 wp_region_quiet (C:=fun w'=>∃ x : In w,w' = x.u) hm hB ⟨⟨w.drew,(Below.refl _ w).drew⟩,rfl⟩ (by simpa using h)
theorem Calls.in_of {P : Program} {f : FuncId} {args : Array Value} {W : World} {x : In W} {v : Value}
  (h : Calls P f args x.u fun e w'=>e = .returned v ∧ Below x.u.heap.size x.u w') : Calls P f args x.u fun e w''=>e = .returned v ∧ ∃ y : In W,w'' = y.u :=
 h.mono fun _ w' ⟨he,hb⟩=>⟨he,⟨w',x.h.trans (hb.mono x.h.size)⟩,rfl⟩
end Go.Proofs.Ytaecmhlglnmimaa.ed
namespace Go.Proofs.Ytaecmhlglnmimaa.utf
open Go.RowKit
theorem extract_drop (s : ByteArray) (k : Nat) : (s.extract k s.size).data.toList = s.data.toList.drop k:=by
 rw [ByteArray.data_extract,Array.toList_extract]
 have e : s.size = s.data.toList.length:=by rw [Array.length_toList];rfl
 rw [List.extract_eq_take_drop,e,List.take_of_length_le (by simp)]
theorem size_toList (s : ByteArray) : s.data.toList.length = s.size:=by rw [Array.length_toList];rfl
def runeBad (s : ByteArray) (pos : Nat) : Bool:=((Utf8.decode s pos).1 == 65533) && !(Lib.hasPrefix (s.data.toList.drop pos) [239,191,189])
def checkFrom (s : ByteArray) : Nat → Nat → Int
 | 0,_=>-1
 | b + 1,pos=>if pos < s.size then (if runeBad s pos then (pos : Int) else checkFrom s b (pos + (Utf8.decode s pos).2)) else -1
def checkF (s : ByteArray) : Int:=checkFrom s s.size 0
end Go.Proofs.Ytaecmhlglnmimaa.utf
