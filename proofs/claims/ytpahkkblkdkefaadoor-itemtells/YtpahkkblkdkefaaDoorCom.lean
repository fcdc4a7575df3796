/- What every text of the seat leans on: the byte's row in the table of types, bytes as strings. -/
import Derived.Test.YtpahkkblkdkefaaDoorRows
import Derived.Test.YtpahkkblkdkefaaDoorMem
import Derived.WalkKit
import Derived.WalkLawsBesides
namespace Go.Proofs.YtpahkkblkdkefaaDoor
open Go.RowKit
set_option linter.unusedVariables false

theorem info5 : (Tryd.prog.info? 5).map (fun i => (i.zero, i.size, i.bytes)) = some (some (.int .u8 0), 1, 1) := by kernel_rfl

/-- The bytes as a string, in every later world. -/
theorem strs {w : World} {A : Option Addr} {n c : Nat} {l : List UInt8} (h : Rd w A n c l) : ∀ w', Below w.heap.size w w' → Sem.run Tryd.prog (convert 23 9 (.slice A n c)) w' = .ok (.string (str l)) w' :=
  fun w' hb => run_str (h.below hb) Tryd.underlying23 Tryd.underlying5 Tryd.underlying9

end Go.Proofs.YtpahkkblkdkefaaDoor
