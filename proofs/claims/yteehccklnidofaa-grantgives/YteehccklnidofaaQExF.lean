/- The walk of valueOfPair. -/
import Derived.Test.YteehccklnidofaaQExD
namespace Go.Proofs.Yteehccklnidofaa
open Go.RowKit

end Go.Proofs.Yteehccklnidofaa
