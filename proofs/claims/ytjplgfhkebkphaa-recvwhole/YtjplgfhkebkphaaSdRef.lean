/- The document's Cut and Left of send; rows that are the same. -/
import Derived.Test.YtjplgfhkebkphaaSdGot
namespace Go.Proofs.Ytjplgfhkebkphaa
open Go.ChangeShapes Go.WideShapes Go.ChangeAt Go.RowKit
end Go.Proofs.Ytjplgfhkebkphaa
