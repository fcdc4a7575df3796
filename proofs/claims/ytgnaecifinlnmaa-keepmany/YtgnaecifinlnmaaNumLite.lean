/- What the texts of package item take over where package num is no part of the program: nothing of its own. -/
import Derived.Test.YtgnaecifinlnmaaNumMath
import Derived.Test.YtgnaecifinlnmaaMemV
import Derived.Test.YtgnaecifinlnmaaCom
import Derived.Test.YtgnaecifinlnmaaClone
import Derived.Test.YtgnaecifinlnmaaStruct
import Derived.WalkKit
import Derived.WalkLawsBesides
import Derived.Laws.Rows
import Derived.IntWalk
import Derived.Lib.SliceRun
import Derived.ScopeJumps
import Derived.WalkMore
set_option maxRecDepth 100000
namespace Go.Proofs.Ytgnaecifinlnmaa
open Go.RowKit
end Go.Proofs.Ytgnaecifinlnmaa
