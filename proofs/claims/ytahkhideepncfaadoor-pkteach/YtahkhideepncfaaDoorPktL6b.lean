/- The law PktEach, for every input. -/
import Derived.Test.YtahkhideepncfaaDoorPktL6
import Derived.Test.YtahkhideepncfaaDoorPktOpen
import Derived.Test.YtahkhideepncfaaDoorIE
set_option maxRecDepth 100000
namespace Go.Proofs.YtahkhideepncfaaDoor
open Go.RowKit Go.ChangeShapes Go.WideShapes Go.ChangeAt
set_option linter.unusedVariables false

set_option maxRecDepth 100000 in
set_option maxHeartbeats 4000000 in
theorem peach_any (v : Value) (p : Pkt.Pk) (cut : Int) (D : Option Addr) (t ec : Nat) (more : List UInt8) (w : World) (hw : Wd w) (hu : IsPkt w v p) (hD : Rd w D t ec more) (hc0 : 0 ≤ cut) (hc1 : cut < 65536) :
    Calls Tryd.prog 6 #[v, .int .u16 cut, .slice D t ec] w (Yes w) := by
  obtain ⟨cp, rfl, hs, ho, hu⟩ := pk_letters hu
  cases hf : ((decide (p.it.l.length ≤ 80) && decide (p.it.b.length ≤ 1100)) && decide (p.l.length ≤ 80)) with
  | true =>
    cases hm : Pkt.may p with
    | true =>
      by_cases ht : t ≤ 100
      · exact peach_in cp p cut D t ec more w hw hu hs hD hc0 hc1 hf hm ht
      · have hq : decide ((100 : Int) < (t : Int)) = true := by simp; omega
        obtain ⟨w0, hw0⟩ : ∃ w0, w.alloc (.cells cp 27) = w0 := ⟨_, rfl⟩
        have b0 : Below w.heap.size w w0 := by rw [← hw0]; exact pkeep_alloc (Below.refl _ _) _
        have g0 : w0.heap[w.heap.size]? = some (.cells cp 27 (0, 0)) := by rw [← hw0]; exact alloc_at _ _ _ rfl
        have HW0 := hidT hw0
        have GP : Hid (∀ w', Below w0.heap.size w0 w' → w'.heap[w.heap.size]? = some (.cells cp 27 (0, 0))) := fun w' hb => (hb.block _ (blk_ltP g0)).trans g0
        clear hw0 g0
        go_enter Tryd.func6, Tryd.ntmps6
        go_wp2_with fail
        rw [HW0.out]
        clear HW0
        with_reducible refine (pshown_any _ (hw.below b0)).mono ?_
        rintro en w1 ⟨rfl, b1⟩
        have l1 := GP.out w1 b1
        have hF := rpfew_is _ p w1 (hu.below (bthen b0 b1))
        rw [hf] at hF
        go_wp2_with (refine wpList_ldP rfl (.tmp 3) rfl w.heap.size rfl cp hs l1 ?_)
        with_reducible refine hF.mono ?_
        rintro en w2 ⟨rfl, b2⟩
        clear hF l1
        have l2 := GP.out w2 (bthen b1 b2)
        have hM := rpmay_any _ p w2 (hu.below (bthen b0 (bthen b1 b2)))
        rw [hm] at hM
        go_wp2_with (refine wpList_ldP rfl (.tmp 3) rfl w.heap.size rfl cp hs l2 ?_)
        with_reducible refine hM.mono ?_
        rintro en w3 ⟨rfl, b3⟩
        clear hM l2
        go_wp2
        go_ret
        exact ⟨rfl, bthen b0 (bthen b1 (bthen b2 b3))⟩
    | false =>
      obtain ⟨w0, hw0⟩ : ∃ w0, w.alloc (.cells cp 27) = w0 := ⟨_, rfl⟩
      have b0 : Below w.heap.size w w0 := by rw [← hw0]; exact pkeep_alloc (Below.refl _ _) _
      have g0 : w0.heap[w.heap.size]? = some (.cells cp 27 (0, 0)) := by rw [← hw0]; exact alloc_at _ _ _ rfl
      have HW0 := hidT hw0
      have GP : Hid (∀ w', Below w0.heap.size w0 w' → w'.heap[w.heap.size]? = some (.cells cp 27 (0, 0))) := fun w' hb => (hb.block _ (blk_ltP g0)).trans g0
      clear hw0 g0
      go_enter Tryd.func6, Tryd.ntmps6
      go_wp2_with fail
      rw [HW0.out]
      clear HW0
      with_reducible refine (pshown_any _ (hw.below b0)).mono ?_
      rintro en w1 ⟨rfl, b1⟩
      have l1 := GP.out w1 b1
      have hF := rpfew_is _ p w1 (hu.below (bthen b0 b1))
      rw [hf] at hF
      go_wp2_with (refine wpList_ldP rfl (.tmp 3) rfl w.heap.size rfl cp hs l1 ?_)
      with_reducible refine hF.mono ?_
      rintro en w2 ⟨rfl, b2⟩
      clear hF l1
      have l2 := GP.out w2 (bthen b1 b2)
      have hM := rpmay_any _ p w2 (hu.below (bthen b0 (bthen b1 b2)))
      rw [hm] at hM
      go_wp2_with (refine wpList_ldP rfl (.tmp 3) rfl w.heap.size rfl cp hs l2 ?_)
      with_reducible refine hM.mono ?_
      rintro en w3 ⟨rfl, b3⟩
      clear hM l2
      go_wp2
      go_ret
      exact ⟨rfl, bthen b0 (bthen b1 (bthen b2 b3))⟩
  | false =>
    obtain ⟨w0, hw0⟩ : ∃ w0, w.alloc (.cells cp 27) = w0 := ⟨_, rfl⟩
    have b0 : Below w.heap.size w w0 := by rw [← hw0]; exact pkeep_alloc (Below.refl _ _) _
    have g0 : w0.heap[w.heap.size]? = some (.cells cp 27 (0, 0)) := by rw [← hw0]; exact alloc_at _ _ _ rfl
    have HW0 := hidT hw0
    have GP : Hid (∀ w', Below w0.heap.size w0 w' → w'.heap[w.heap.size]? = some (.cells cp 27 (0, 0))) := fun w' hb => (hb.block _ (blk_ltP g0)).trans g0
    clear hw0 g0
    go_enter Tryd.func6, Tryd.ntmps6
    go_wp2_with fail
    rw [HW0.out]
    clear HW0
    with_reducible refine (pshown_any _ (hw.below b0)).mono ?_
    rintro en w1 ⟨rfl, b1⟩
    have l1 := GP.out w1 b1
    have hF := rpfew_is _ p w1 (hu.below (bthen b0 b1))
    rw [hf] at hF
    go_wp2_with (refine wpList_ldP rfl (.tmp 3) rfl w.heap.size rfl cp hs l1 ?_)
    with_reducible refine hF.mono ?_
    rintro en w2 ⟨rfl, b2⟩
    clear hF l1
    go_wp2
    go_ret
    exact ⟨rfl, bthen b0 (bthen b1 b2)⟩
theorem u16_open {W : World} {r : Reach} {b0 : Nat} {v : Value} (o : Value.okWide Tryd.prog W r b0 40 v) (h : Tr Tryd.prog W 40 v.cells.toList) : ∃ a : Int, v = .int .u16 a ∧ 0 ≤ a ∧ a < 65536 := by
  obtain ⟨a, e, hw⟩ := h.int Tryd.underlying40
  obtain ⟨k, rfl⟩ := okWide_int Tryd.underlying40 o
  simp [Value.cells] at e
  subst e
  simp [Lit.wf, IntKind.min, IntKind.max, IntKind.bits, IntKind.signed] at hw
  exact ⟨_, rfl, by omega, by omega⟩
end Go.Proofs.YtahkhideepncfaaDoor
