/- Walks of package pack's leaf functions: toZigzag, fromZigzag, appendNumber. -/
import Derived.Test.YteehccklnidofaaRows
import Derived.WalkKit
import Derived.WalkSpells
import Derived.WalkLawsBesides
import Derived.Lib.Hide
import Derived.Deep.LoopGhost
import Derived.Test.YteehccklnidofaaQMem
import Derived.Test.YteehccklnidofaaQInfo
namespace Go.Proofs.Yteehccklnidofaa
open Go.RowKit

end Go.Proofs.Yteehccklnidofaa
