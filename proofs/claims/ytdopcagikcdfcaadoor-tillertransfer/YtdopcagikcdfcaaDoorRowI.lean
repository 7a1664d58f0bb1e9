/- Rows of whole numbers in memory; at most so many of them, in memory of one's own. -/
import Derived.Test.YtdopcagikcdfcaaDoorCkBase
namespace Go.Proofs.YtdopcagikcdfcaaDoor
open Go.ChangeShapes Go.WideShapes Go.ChangeAt Go.RowKit
end Go.Proofs.YtdopcagikcdfcaaDoor
