/- The walk of valueOfPair. -/
import Derived.Test.YtlkeagfmlcbogaaQEXa
namespace Go.Proofs.Ytlkeagfmlcbogaa
open Go.RowKit

end Go.Proofs.Ytlkeagfmlcbogaa
