/- What the texts of package item take over where package num is no part of the program: nothing of its own. -/
import Derived.Test.YtkkkfaelpmmffaaNumMath
import Derived.Test.YtkkkfaelpmmffaaMemV
import Derived.Test.YtkkkfaelpmmffaaCom
import Derived.Test.YtkkkfaelpmmffaaClone
import Derived.Test.YtkkkfaelpmmffaaStruct
import Derived.WalkKit
import Derived.WalkLawsBesides
import Derived.Laws.Rows
import Derived.IntWalk
import Derived.Lib.SliceRun
import Derived.ScopeJumps
import Derived.WalkMore
set_option maxRecDepth 100000
namespace Go.Proofs.Ytkkkfaelpmmffaa
open Go.RowKit
end Go.Proofs.Ytkkkfaelpmmffaa
