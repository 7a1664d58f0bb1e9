/- The document's Cut and Left of send; rows that are the same. -/
import Derived.Test.YtcnkjkmmngckgaaSdGot
namespace Go.Proofs.Ytcnkjkmmngckgaa
open Go.ChangeShapes Go.WideShapes Go.ChangeAt Go.RowKit
end Go.Proofs.Ytcnkjkmmngckgaa
