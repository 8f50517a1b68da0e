/-
  sign's contracts at a given answer.
-/
import Derived.Laws.BytesArg
import Derived.Test.YtdhmcfhpadabaaaDoorSgKnown
namespace Go.Proofs.YtdhmcfhpadabaaaDoor.sg
open Go.RowKit Go.ChangeShapes Go.WideShapes Go.ChangeAt Go.ChangeMaps
set_option linter.unusedVariables false

theorem extract_take (s : ByteArray) (k : Nat) : (s.extract 0 k).data.toList = s.data.toList.take k := by rw [Lib.extract_data]; simp
theorem append_data (a b : ByteArray) : (a ++ b).data.toList = a.data.toList ++ b.data.toList := by rw [ByteArray.data_append, Array.toList_append]

theorem oper_is (s : ByteArray) (r : Nat) (h : Sg.oper s.data.toList = r) (w : World) (hw : OpsAt w) :
    Calls Tryd.prog 22 #[.string s] w fun e W' => e = .returned (.int .i64 (r : Int)) ∧ Below w.heap.size w W' := by
  rw [← h]; exact oper_calls s w hw
theorem number_is (s : ByteArray) (hs : s.size ≤ 140737488351232) (r : Nat) (h : Sg.number s.data.toList = r) (w : World) :
    Calls Tryd.prog 19 #[.string s] w fun e W' => e = .returned (.int .i64 (r : Int)) ∧ Below w.heap.size w W' := by
  rw [← h]; exact number_calls s hs w
theorem word_is (s : ByteArray) (hs : s.size ≤ 140737488351232) (r : Nat) (h : Sg.word s.data.toList = r) (w : World) :
    Calls Tryd.prog 20 #[.string s] w fun e W' => e = .returned (.int .i64 (r : Int)) ∧ w = W' := by
  rw [← h]; exact word_calls s hs w
theorem escape_is (s : ByteArray) (hs : s.size ≤ 140737488351232) (r : Nat) (h : Sg.escape s.data.toList = r) (w : World) :
    Calls Tryd.prog 21 #[.string s] w fun e W' => e = .returned (.int .i64 (r : Int)) ∧ Below w.heap.size w W' := by
  rw [← h]; exact escape_calls s hs w
theorem plain_is (s : ByteArray) (hs : s.size ≤ 140737488351232) (r : Bool) (h : Sg.plain s.data.toList = r) (w : World) :
    Calls Tryd.prog 23 #[.string s] w fun e W' => e = .returned (.bool r) ∧ Below w.heap.size w W' := by
  rw [← h]; exact plain_calls s hs w
theorem key_is (s : ByteArray) (hs : s.size ≤ 140737488351232) (r : Bool) (h : Sg.key s.data.toList = r) (w : World) :
    Calls Tryd.prog 24 #[.string s] w fun e W' => e = .returned (.bool r) ∧ Below w.heap.size w W' := by
  rw [← h]; exact key_calls s hs w

/-- A byte as a text. -/
def byteB (x : Int) : ByteArray := ⟨#[UInt8.ofNat x.toNat]⟩
theorem byteB_size (x : Int) : (byteB x).size = 1 := rfl
theorem byteB_data (x : Int) : (byteB x).data.toList = [UInt8.ofNat x.toNat] := rfl
theorem byte_nat {x : Int} (h0 : 0 ≤ x) (h1 : x ≤ 255) : ((UInt8.ofNat x.toNat).toNat : Int) = x := by
  rw [UInt8.toNat_ofNat_of_lt' (by show x.toNat < 256; omega)]; omega
theorem one_byte (w : World) (x : Int) : (convert 22 9 (.slice (some ⟨w.heap.size, 0, none⟩) 1 1)).run Tryd.prog (w.alloc (.cells #[.int .u8 x] 5)) = .ok (.string (byteB x)) (w.alloc (.cells #[.int .u8 x] 5)) :=
  run_convert_bytes_arg _ 22 5 Tryd.underlying22 Tryd.underlying5 w.heap.size 0 1 1 [x] rfl
    (fun i hi => by obtain rfl : i = 0 := by omega
                    rw [cells_new]; rfl) 9 Tryd.underlying9
end Go.Proofs.YtdhmcfhpadabaaaDoor.sg
