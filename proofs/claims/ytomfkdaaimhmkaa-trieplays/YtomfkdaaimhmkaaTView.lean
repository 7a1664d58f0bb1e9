/- This program as the given rows see it. -/
import Derived.Test.YtomfkdaaimhmkaaTAwake
import Derived.ProofKit
import Derived.Carry
import Derived.OpenShut
namespace Go.Proofs.Ytomfkdaaimhmkaa
open Go.ChangeShapes Go.WideShapes Go.ChangeAt Go.RowKit
theorem Try.own : ownKnob Try.prog.godebug = none := by kernel_rfl
theorem Try.laidOut : laidOutB Try.prog = true := by kernel_rfl
end Go.Proofs.Ytomfkdaaimhmkaa
