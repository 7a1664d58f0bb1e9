/- What each call of package vec answers: sums of products, and that they change nothing. -/
import Derived.Test.YtmocofkcaamnoabRows
import Derived.Test.YtmocofkcaamnoabSlcP
import Derived.Test.YtmocofkcaamnoabFix
namespace Go.Proofs.Ytmocofkcaamnoab
open Go.ChangeShapes Go.WideShapes Go.ChangeAt Go.RowKit
end Go.Proofs.Ytmocofkcaamnoab
