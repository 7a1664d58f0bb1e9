/- The statements' awake: the answers that the document fixes are given. Condition: what the package's variables hold. -/
import Derived.Test.YtmcjcmddijikbaaDoorFUnpack
namespace Go.Proofs.YtmcjcmddijikbaaDoor
open Go.ChangeShapes Go.WideShapes Go.ChangeAt Go.RowKit
def aL : List UInt8 := [84, 1, 1, 0, 0, 0, 97, 1, 185, 127, 134]
theorem pack_a : packL [97] = aL := by decide +kernel
theorem un_a : unT aL = [97] ∧ fltN aL = none := by decide +kernel
theorem un_ax : fltN (aL ++ [120]) = some (11, 6) := by decide +kernel
theorem sum_9 : sumN [49, 50, 51, 52, 53, 54, 55, 56, 57] = 3421780262 := by decide +kernel
end Go.Proofs.YtmcjcmddijikbaaDoor
