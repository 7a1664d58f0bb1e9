/- What each call of package vec answers: sums of products, and that they change nothing. -/
import Derived.Test.YtklgaokhillinaaRows
import Derived.Test.YtklgaokhillinaaSlcP
import Derived.Test.YtklgaokhillinaaFix
namespace Go.Proofs.Ytklgaokhillinaa
open Go.ChangeShapes Go.WideShapes Go.ChangeAt Go.RowKit
end Go.Proofs.Ytklgaokhillinaa
