/- What each call of package vec answers: sums of products, and that they change nothing. -/
import Derived.Test.YtmocofkcaamnoacRows
import Derived.Test.YtmocofkcaamnoacSlcP
import Derived.Test.YtmocofkcaamnoacFix
namespace Go.Proofs.Ytmocofkcaamnoac
open Go.ChangeShapes Go.WideShapes Go.ChangeAt Go.RowKit
end Go.Proofs.Ytmocofkcaamnoac
