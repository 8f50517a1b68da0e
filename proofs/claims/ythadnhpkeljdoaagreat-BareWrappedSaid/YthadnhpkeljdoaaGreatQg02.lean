/- Ground of the law: UtfRune. -/
import Derived.WalkKit
import Derived.Lib.Hide
import Derived.Lib.RuneCount
import Derived.Laws.RangeAny
import Derived.Test.YthadnhpkeljdoaaGreatQg00
set_option maxRecDepth 100000
set_option maxHeartbeats 8000000
set_option linter.unusedVariables false
set_option linter.unusedSimpArgs false
namespace Go.Proofs.YthadnhpkeljdoaaGreat.utf
open Go.RowKit
theorem extract_drop (s : ByteArray) (k : Nat) : (s.extract k s.size).data.toList = s.data.toList.drop k:=by
 rw [ByteArray.data_extract,Array.toList_extract]
 have e : s.size = s.data.toList.length:=by rw [Array.length_toList];rfl
 rw [List.extract_eq_take_drop,e,List.take_of_length_le (by simp)]
theorem size_toList (s : ByteArray) : s.data.toList.length = s.size:=by rw [Array.length_toList];rfl
def runeBad (s : ByteArray) (pos : Nat) : Bool:=((Utf8.decode s pos).1 == 65533) && !(Lib.hasPrefix (s.data.toList.drop pos) [239,191,189])
def checkFrom (s : ByteArray) : Nat → Nat → Int
 | 0,_=>-1
 | b + 1,pos=>if pos < s.size then (if runeBad s pos then (pos : Int) else checkFrom s b (pos + (Utf8.decode s pos).2)) else -1
def checkF (s : ByteArray) : Int:=checkFrom s s.size 0
end Go.Proofs.YthadnhpkeljdoaaGreat.utf
