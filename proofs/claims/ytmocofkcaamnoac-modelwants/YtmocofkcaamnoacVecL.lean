/- What the laws of layer 3 call beside package vec: a copy of a row, the awake check, the document's own answers. -/
import Derived.Test.YtmocofkcaamnoacVec
import Derived.Test.YtmocofkcaamnoacRef
namespace Go.Proofs.Ytmocofkcaamnoac
open Go.ChangeShapes Go.WideShapes Go.ChangeAt Go.RowKit
theorem dot_lit : dotN [65536, 32768] [65536, 65536] 2 = 98304 := by decide
theorem amax_lit : amax [3, 7, 7] 3 = 1 := by decide
end Go.Proofs.Ytmocofkcaamnoac
