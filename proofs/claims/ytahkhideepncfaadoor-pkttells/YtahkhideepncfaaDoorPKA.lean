import Derived.Test.YtahkhideepncfaaDoorPkt0
import Derived.Test.YtahkhideepncfaaDoorPktShown
import Derived.Test.YtahkhideepncfaaDoorRefPkt1
import Derived.Test.YtahkhideepncfaaDoorRefPkt3
import Derived.Test.YtahkhideepncfaaDoorRefPkt4
import Derived.Test.YtahkhideepncfaaDoorPkt12
import Derived.Test.YtahkhideepncfaaDoorCB
import Derived.BigQuiet
import Derived.Deep.RegionHeld3
import Derived.Deep.RegionHeldLaw
set_option maxRecDepth 100000
/- Packets as values of fifteen cells that are letters: loaded whole. -/
namespace Go.Proofs.YtahkhideepncfaaDoor
open Go.RowKit
set_option linter.unusedVariables false

/-- A packet's cells, as a letter. -/
theorem pk_letters {w : World} {v : Value} {p : Pkt.Pk} (h : IsPkt w v p) : ∃ cs : Array Value, v = .agg cs ∧ cs.size = 15 ∧ cs.all (·.oneCell') = true ∧ IsPkt w (.agg cs) p := by
  have h0 := h
  obtain ⟨LA, ln, lc, BA, bn, bc, PA, pn, pc, rfl, h1, h2, h3⟩ := h
  exact ⟨_, rfl, rfl, all15 rfl rfl rfl rfl rfl rfl rfl rfl rfl rfl rfl rfl rfl rfl rfl, h0⟩
theorem blk_ltP {w : World} {g : Nat} {o : Obj} (h : w.heap[g]? = some o) : g < w.heap.size := by
  rcases Nat.lt_or_ge g w.heap.size with hlt | hge
  · exact hlt
  · rw [Array.getElem?_eq_none hge] at h; cases h
theorem pk_load {w : World} {g : Nat} {cs : Array Value} {t : TypeId} {fr : Nat × Nat} (hg : w.heap[g]? = some (.cells cs t fr)) (hs : cs.size = 15) :
    ∀ w', Below w.heap.size w w' → Sem.run Tryd.prog (loadVar 27 ⟨g, 0, none⟩) w' = .ok (.agg cs) w' := by
  intro w' hb
  exact run_loadVar_row w' g t 27 cs fr _ ((hb.block g (blk_ltP hg)).trans hg) Tryd.underlying27 rfl (by rw [hs]; exact info37)
/-- A packet is loaded whole. -/
theorem wpList_ldP {w : World} {ops : Array Oper} {rest : List Oper} {o : Oper} {a : Act} {Q : Exit → Act → World → Prop} (hgd : Region.wanted o (yielded ops a.tmps) = true) (x : Operand) (ho : o.op = .load 27 x)
    (g : Nat) (hx : a.eval x = .pointer (some ⟨g, 0, none⟩)) (cs : Array Value) (hs : cs.size = 15) (hg : w.heap[g]? = some (.cells cs 27 (0, 0)))
    (h : wpList Tryd.prog ops Q rest (a.put o.dst (.agg cs)) w) : wpList Tryd.prog ops Q (o :: rest) a w := by
  refine wpList_step fun K hK => ?_
  rw [if_pos hgd]
  exact wp_load_row 27 x ho g hx 27 cs (0, 0) _ hg Tryd.underlying27 rfl (by rw [hs]; exact info37) (hK _ _ h)
theorem run_ldP {w : World} {o : Oper} {a : Act} (x : Operand) (ho : o.op = .load 27 x)
    (g : Nat) (hx : a.eval x = .pointer (some ⟨g, 0, none⟩)) (cs : Array Value) (hs : cs.size = 15) (hg : w.heap[g]? = some (.cells cs 27 (0, 0))) :
    (execOp a.eval o).run Tryd.prog w = .ok (.value (.agg cs)) w := by
  unfold execOp
  simp only [ho, hx, Instr.loadAt, Instr.sureAddr, Sem.run_bind, Sem.run_pure, Result.andThen_ok, run_loadVar_row w g 27 27 cs (0, 0) _ hg Tryd.underlying27 rfl (by rw [hs]; exact info37)]
theorem results_cellP {fn : Func} {p t : Tmp} (h : fn.results = #[.cell p 27, .tmp t]) (tmps : Array Value) (w : World) (g : Nat) (cs : Array Value) (hs : cs.size = 15)
    (hp : tmps.getD p undef = .pointer (some ⟨g, 0, none⟩)) (hg : w.heap[g]? = some (.cells cs 27 (0, 0))) (v : Value) (hv : tmps.getD t undef = v) :
    (results fn tmps).run Tryd.prog w = .ok (.tuple #[.agg cs, v]) w := by
  have hp' : tmps[p]?.getD undef = .pointer (some ⟨g, 0, none⟩) := by simpa using hp
  have hv' : tmps[t]?.getD undef = v := by simpa using hv
  simp [results, h, hp', hv', asAddr, run_loadVar_row w g 27 27 cs (0, 0) _ hg Tryd.underlying27 rfl (by rw [hs]; exact info37)]
theorem pkeep_alloc {w w' : World} (h : Below w.heap.size w w') (o : Obj) : Below w.heap.size w (w'.alloc o) := h.alloc h.size o
theorem cut3 {w : World} {b o n c : Nat} {l : List UInt8} (h : Rd w (some ⟨b, o, none⟩) n c l) (hn : 3 ≤ n) : Rd w (if c = 3 then some ⟨b, o, none⟩ else some ⟨b, o + 3, none⟩) (n - 3) (c - 3) (l.drop 3) := by
  have hnc := h.2.1
  have hl := h.1
  split
  · rename_i hc
    rw [show n - 3 = 0 from by omega, show c - 3 = 0 from by omega, List.drop_of_length_le (by omega)]
    exact Rd.empty _ _
  · exact h.drop hn
theorem nil_pk (w : World) (k f to lo many top : Int) : IsPkt w (.agg #[.int .i64 k, .int .i64 f, .int .i64 0, .int .i64 0, .int .i64 0, .int .i64 0, .int .i64 0, .int .i64 0, .slice none 0 0, .slice none 0 0, .int .i64 to, .int .i64 lo, .int .i64 many, .int .i64 top, .slice none 0 0]) ⟨k, f, Item.It.zero, to, lo, many, top, []⟩ := ⟨none, 0, 0, none, 0, 0, none, 0, 0, rfl, RdV.nil_ w, Rd.nil_ w, RdV.nil_ w⟩
end Go.Proofs.YtahkhideepncfaaDoor
/- What the laws of packets lean on. -/
namespace Go.Proofs.YtahkhideepncfaaDoor
open Go.RowKit
set_option linter.unusedVariables false

theorem seal_len4 (p : Pkt.Pk) (h : Pkt.may p = true) : 4 ≤ (Pkt.bytes p).length := by
  unfold Pkt.bytes
  rw [if_pos h, seal_length]
  omega
end Go.Proofs.YtahkhideepncfaaDoor
/- What the document's Read of packets leans on. -/
namespace Go.Proofs.YtahkhideepncfaaDoor
open Go.RowKit
set_option linter.unusedVariables false

theorem refOf_eq {b c : List UInt8} (h : b = Crc.sealB c) : Pkt.refOf b c = Pkt.readC c := by
  cases hr : Pkt.readC c with
  | some p =>
    obtain ⟨hm, hw⟩ := Pkt.read_inv hr
    have hb : Pkt.bytes p = b := by unfold Pkt.bytes; rw [if_pos hm, hw, h]
    have := Pkt.refOf_put hm
    rw [hb, hw] at this
    exact this
  | none =>
    cases hf : Pkt.refOf b c with
    | none => rfl
    | some p =>
      exfalso
      unfold Pkt.refOf at hf
      split at hf
      · cases hf
      · unfold Pkt.tried at hf
        split at hf
        · rename_i hh
          obtain ⟨hm, hb⟩ := hh
          injection hf with hf
          have e : Crc.sealB (Pkt.raw p) = Crc.sealB c := by
            rw [← h, ← hb, hf]
            unfold Pkt.bytes
            rw [hf] at hm
            rw [if_pos hm]
          have := Pkt.read_put (p := p) (by rw [← hf]; exact hm)
          rw [seal_inj e, hr] at this
          cases this
        · cases hf
end Go.Proofs.YtahkhideepncfaaDoor
