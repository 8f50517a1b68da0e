/- Ground of the law: PaTie2. -/
import Derived.Test.YtlklhkkjcfmefaaGreatDoorQe14
import Derived.Test.YtlklhkkjcfmefaaGreatDoorQe35
set_option maxRecDepth 100000
set_option maxHeartbeats 8000000
set_option linter.unusedVariables false
set_option linter.unusedSimpArgs false
namespace Go.Proofs.YtlklhkkjcfmefaaGreatDoor.pa
open Go.RowKit nd pr
theorem exL_tie {n : Nat} (least : Int) : ∀ k,k ≤ n → ∀ (x : Nd) (b : Int),Sb (go k (.expL least x b) : Pa Nd) (exL (fun m=>go n (.exp m)) least k x b)
 | 0,_,_,_=>Sb.out _
 | k + 1,hk,x,b=>fun r hr=>by
  show At r (step (go k) (.expL least x b)) _
  unfold step exL
  refine At.look (At.ite (fun _=>At.refl _ _) fun _=>At.ite (fun _=>At.refl _ _) fun _=>At.move ?_)
  exact At.bind hr.tail (Sb.go (by omega) _ _ hr.tail) (fun y r' hr'=>exL_tie least k (by omega) _ _ r' hr')
theorem exp_tie (n : Nat) (least : Int) : Sb (go (n + 1) (.exp least) : Pa Nd) ((go n .operand : Pa Nd).bind fun x=>exL (fun m=>go n (.exp m)) least n x 0):=by
 show Sb (step (go n) (.exp least)) _
 unfold step
 exact Sb.bind (Sb.refl _) (fun x=>exL_tie least n (Nat.le_refl _) x 0)
end Go.Proofs.YtlklhkkjcfmefaaGreatDoor.pa
