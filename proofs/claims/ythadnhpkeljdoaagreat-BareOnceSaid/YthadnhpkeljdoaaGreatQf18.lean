/- Ground of the law: PaP4. -/
import Derived.Test.YthadnhpkeljdoaaGreatQf16
import Derived.Test.YthadnhpkeljdoaaGreatQf10
set_option maxRecDepth 100000
set_option maxHeartbeats 8000000
set_option linter.unusedVariables false
set_option linter.unusedSimpArgs false
namespace Go.Proofs.YthadnhpkeljdoaaGreat.pa
open Go.RowKit nd pr sx ed
theorem tok_lt {E : Env} {i : Nat} {t : Tk} (h : tk E i = t) (hk : t.1 ≠ 0) : i < E.l.length:=tk_lt h (fun e=>hk (by rw [e];rfl))
end Go.Proofs.YthadnhpkeljdoaaGreat.pa
