/- Ground of the law: LxTurn, NdShow0. -/
import Derived.Test.YtaecmhlglnmimaaQf14
import Derived.Lib.ItoaLen
import Derived.Lib.QuoteLoop
set_option maxRecDepth 100000
set_option maxHeartbeats 8000000
set_option linter.unusedVariables false
set_option linter.unusedSimpArgs false
namespace Go.Proofs.Ytaecmhlglnmimaa.lx
open Go.RowKit Go.Shelf
open sg (lst_len extract_drop ext_size)
open sx
theorem toList_eq (s : ByteArray) : s.toList = s.data.toList:=Lib.toList_data s
end Go.Proofs.Ytaecmhlglnmimaa.lx
namespace Go.Proofs.Ytaecmhlglnmimaa.nd
open Go.RowKit sx ed
abbrev cl (n : Nat) : List UInt8:=List.replicate n 41
end Go.Proofs.Ytaecmhlglnmimaa.nd
