/- The awake check of the laws of layer 5 is true, and the document's error of a row, where the table of steps lies as the program's text lays it. -/
import Derived.Test.YtjcacejkiaepnaaDoorSoftW
import Derived.Test.YtjcacejkiaepnaaDoorVecL
namespace Go.Proofs.YtjcacejkiaepnaaDoor
open Go.ChangeShapes Go.WideShapes Go.ChangeAt Go.RowKit
theorem wgt_lit0 : wgt [0, -65536] 2 0 = 43690 := by decide
theorem wgt_lit1 : wgt [0, -65536] 2 1 = 21845 := by decide
theorem mean_lit : meanN [65536, 65536] 2 = 65536 := by decide
end Go.Proofs.YtjcacejkiaepnaaDoor
