/- The walk of valueOfPair. -/
import Derived.Test.YtlkeagfmlcbogaaExD
namespace Go.Proofs.Ytlkeagfmlcbogaa
open Go.RowKit

end Go.Proofs.Ytlkeagfmlcbogaa
