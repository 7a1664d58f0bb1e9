/- The document's Cut of send. Written by tools/gensdref2.py. -/
import Derived.Test.YtjplgfhkebkphaaSdRef
namespace Go.Proofs.Ytjplgfhkebkphaa
open Go.ChangeShapes Go.WideShapes Go.ChangeAt Go.RowKit
end Go.Proofs.Ytjplgfhkebkphaa
