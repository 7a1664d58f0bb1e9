/- What each call of the document's package for layer 1 answers, of every input in range. -/
import Derived.Test.YtklgaokhillinaaFix
import Derived.WalkKit
import Derived.ProofKit
import Derived.OpenShut
import Derived.WalkLawsBesides
import Derived.BigQuiet
import Derived.WalkSmall
import Derived.Laws.IdiomStrings
import Derived.Lib.UnsafeStr
import Derived.OwnWalk
namespace Go.Proofs.Ytklgaokhillinaa
open Go.ChangeShapes Go.WideShapes Go.ChangeAt Go.RowKit
open Go.Lib (byteCells)
end Go.Proofs.Ytklgaokhillinaa
