/- The walk of valueOfPair. -/
import Derived.Test.YtmlgochblmbkaaaExD
namespace Go.Proofs.Ytmlgochblmbkaaa
open Go.RowKit

end Go.Proofs.Ytmlgochblmbkaaa
