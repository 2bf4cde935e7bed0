/- The walks of nodesLeft and isLong. -/
import Derived.Test.YteehccklnidofaaExG
namespace Go.Proofs.Yteehccklnidofaa
open Go.RowKit

end Go.Proofs.Yteehccklnidofaa
