/- The walks of nodesLeft and isLong. -/
import Derived.Test.YteehccklnidofaaQExG
namespace Go.Proofs.Yteehccklnidofaa
open Go.RowKit

end Go.Proofs.Yteehccklnidofaa
