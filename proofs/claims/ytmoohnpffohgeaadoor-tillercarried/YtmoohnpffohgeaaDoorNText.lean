/- Texts, and rows of bytes of the call's own: made of a text, made of zeros, written, read; the statements' Cut. -/
import Derived.Test.YtmoohnpffohgeaaDoorRows
import Derived.Test.YtmoohnpffohgeaaDoorKin
import Derived.Test.YtmoohnpffohgeaaDoorWrCong
import Derived.Test.YtmoohnpffohgeaaDoorWrBur
import Derived.Lib.ConvBytes
import Derived.Lib.IndexBytes
import Derived.Deep.OwnRows
import Derived.Lib.Hide
namespace Go.Proofs.YtmoohnpffohgeaaDoor
open Go.ChangeShapes Go.WideShapes Go.ChangeAt Go.RowKit
end Go.Proofs.YtmoohnpffohgeaaDoor
