/- What pkt.May comes to. (Written by wip/gen/pkt2.py.) -/
import Derived.Test.YtahkhideepncfaaDoorPkt2
import Derived.Test.YtahkhideepncfaaDoorPkt3
import Derived.Test.YtahkhideepncfaaDoorPkt4
set_option maxRecDepth 100000
namespace Go.Proofs.YtahkhideepncfaaDoor
open Go.RowKit
set_option linter.unusedVariables false

theorem pmay_any (v : Value) (p : Pkt.Pk) (w : World) (h : IsPkt w v p) : Calls Tryd.prog 11 #[v] w (BoolIs w (Pkt.may p)) := by
  obtain ⟨LA, ln, lc, BA, bn, bc, PA, pn, pc, rfl, hl, hb, hp⟩ := h
  obtain ⟨k, f, x, to, lo, many, top, l⟩ := p
  by_cases k1 : k = 1
  · exact pmay_1 k f to lo many top l x LA ln lc BA bn bc PA pn pc w hl hb hp k1
  by_cases k2 : k = 2
  · exact pmay_2 k f to lo many top l x LA ln lc BA bn bc PA pn pc w hl hb hp k2
  by_cases k3 : k = 3
  · exact pmay_3 k f to lo many top l x LA ln lc BA bn bc PA pn pc w hl hb hp k3
  by_cases k4 : k = 4
  · exact pmay_4 k f to lo many top l x LA ln lc BA bn bc PA pn pc w hl hb hp k4
  · exact pmay_none k f to lo many top l x LA ln lc BA bn bc PA pn pc w hl hb hp k1 k2 k3 k4
end Go.Proofs.YtahkhideepncfaaDoor
