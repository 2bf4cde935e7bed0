/- The walk of valueOfPair. -/
import Derived.Test.YteehccklnidofaaExD
namespace Go.Proofs.Yteehccklnidofaa
open Go.RowKit

end Go.Proofs.Yteehccklnidofaa
