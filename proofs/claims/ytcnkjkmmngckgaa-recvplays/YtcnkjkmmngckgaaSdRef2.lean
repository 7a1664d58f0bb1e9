/- The document's Cut of send. Written by tools/gensdref2.py. -/
import Derived.Test.YtcnkjkmmngckgaaSdRef
namespace Go.Proofs.Ytcnkjkmmngckgaa
open Go.ChangeShapes Go.WideShapes Go.ChangeAt Go.RowKit
end Go.Proofs.Ytcnkjkmmngckgaa
