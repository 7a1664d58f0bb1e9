/- What the document's answers for layer 5 are: means, norms and weights. -/
import Derived.Test.YtjcacejkiaepnaaDoorSoftA
import Derived.Test.YtjcacejkiaepnaaDoorVecX
import Derived.Test.YtjcacejkiaepnaaDoorCRef
import Derived.Test.YtjcacejkiaepnaaDoorCStp
import Derived.Test.YtjcacejkiaepnaaDoorApp1
namespace Go.Proofs.YtjcacejkiaepnaaDoor
open Go.ChangeShapes Go.WideShapes Go.ChangeAt Go.RowKit
end Go.Proofs.YtjcacejkiaepnaaDoor
