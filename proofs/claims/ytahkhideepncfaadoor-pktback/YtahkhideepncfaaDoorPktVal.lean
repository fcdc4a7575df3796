/- What the laws of packets lean on. -/
import Derived.Test.YtahkhideepncfaaDoorPktShown
import Derived.Test.YtahkhideepncfaaDoorPktPk
import Derived.Test.YtahkhideepncfaaDoorRefPkt1
import Derived.Test.YtahkhideepncfaaDoorRefPkt3
import Derived.Test.YtahkhideepncfaaDoorRefPkt4
import Derived.BigQuiet
import Derived.Deep.RegionHeld3
import Derived.Deep.RegionHeldLaw
set_option maxRecDepth 100000
namespace Go.Proofs.YtahkhideepncfaaDoor
open Go.RowKit
set_option linter.unusedVariables false

theorem seal_len4 (p : Pkt.Pk) (h : Pkt.may p = true) : 4 ≤ (Pkt.bytes p).length := by
  unfold Pkt.bytes
  rw [if_pos h, seal_length]
  omega
end Go.Proofs.YtahkhideepncfaaDoor
