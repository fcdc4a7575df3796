/- What the texts of package item take over where package num is no part of the program: nothing of its own. -/
import Derived.Test.YtmlmkkfieeaejaaNumMath
import Derived.Test.YtmlmkkfieeaejaaMemV
import Derived.Test.YtmlmkkfieeaejaaCom
import Derived.Test.YtmlmkkfieeaejaaClone
import Derived.Test.YtmlmkkfieeaejaaStruct
import Derived.WalkKit
import Derived.WalkLawsBesides
import Derived.Laws.Rows
import Derived.IntWalk
import Derived.Lib.SliceRun
import Derived.ScopeJumps
import Derived.WalkMore
set_option maxRecDepth 100000
namespace Go.Proofs.Ytmlmkkfieeaejaa
open Go.RowKit
end Go.Proofs.Ytmlmkkfieeaejaa
