/- What every text of the seat leans on: the byte's row in the table of types, bytes as strings. -/
import Derived.Test.YtmlmkkfieeaejaaRows
import Derived.Test.YtmlmkkfieeaejaaMem
import Derived.WalkKit
import Derived.WalkLawsBesides
set_option maxRecDepth 100000
namespace Go.Proofs.Ytmlmkkfieeaejaa
open Go.RowKit
set_option linter.unusedVariables false

theorem info5 : (Try.prog.info? 5).map (fun i => (i.zero, i.size, i.bytes)) = some (some (.int .u8 0), 1, 1) := by kernel_rfl

/-- The bytes as a string, in every later world. -/
theorem strs {w : World} {A : Option Addr} {n c : Nat} {l : List UInt8} (h : Rd w A n c l) : ∀ w', Below w.heap.size w w' → Sem.run Try.prog (convert 23 9 (.slice A n c)) w' = .ok (.string (str l)) w' :=
  fun w' hb => run_str (h.below hb) Try.underlying23 Try.underlying5 Try.underlying9

end Go.Proofs.Ytmlmkkfieeaejaa
