/- The law PktBack, for every input. (Written by wip/gen/pktl3b.py.) -/
import Derived.Test.YtahkhideepncfaaDoorPktL3
import Derived.Test.YtahkhideepncfaaDoorPktOpen
import Derived.Test.YtahkhideepncfaaDoorIE
set_option maxRecDepth 100000
namespace Go.Proofs.YtahkhideepncfaaDoor
open Go.RowKit Go.ChangeShapes Go.WideShapes Go.ChangeAt
set_option linter.unusedVariables false

set_option maxRecDepth 100000 in
set_option maxHeartbeats 4000000 in
theorem pback_any (u v : Value) (p o : Pkt.Pk) (A : Option Addr) (n c : Nat) (l : List UInt8) (w : World) (hw : Wd w) (hu : IsPkt w u p) (hv : IsPkt w v o) (hl : Rd w A n c l) :
    Calls Tryd.prog 5 #[u, v, .slice A n c] w (Yes w) := by
  obtain ⟨cp, rfl, hs, ho, hu⟩ := pk_letters hu
  obtain ⟨co, rfl, hs2, ho2, hv⟩ := pk_letters hv
  cases hf : ((decide (p.it.l.length ≤ 80) && decide (p.it.b.length ≤ 1100)) && decide (p.l.length ≤ 80)) with
  | true =>
    cases hf2 : ((decide (o.it.l.length ≤ 80) && decide (o.it.b.length ≤ 1100)) && decide (o.l.length ≤ 80)) with
    | true =>
      by_cases hn : n ≤ 1300
      · exact pback_in cp co p o A n c l w hw hu hv hs hs2 hl hf hf2 hn
      · have hq : decide ((1300 : Int) < (n : Int)) = true := by simp; omega
        obtain ⟨w0, hw0⟩ : ∃ w0, (w.alloc (.cells cp 27)).alloc (.cells co 27) = w0 := ⟨_, rfl⟩
        have b0 : Below w.heap.size w w0 := by rw [← hw0]; exact pkeep_alloc (pkeep_alloc (Below.refl _ _) _) _
        have g0 : w0.heap[w.heap.size]? = some (.cells cp 27 (0, 0)) := by rw [← hw0, alloc_old _ _ _ (by rw [size_alloc]; omega)]; exact alloc_at _ _ _ rfl
        have g1 : w0.heap[w.heap.size + 1]? = some (.cells co 27 (0, 0)) := by rw [← hw0]; exact alloc_at _ _ _ (by rw [size_alloc])
        have HW0 := hidT hw0
        clear hw0
        go_enter Tryd.func5, Tryd.ntmps5
        go_wp2_with fail
        rw [HW0.out]
        clear HW0
        with_reducible refine (pshown_any _ (hw.below b0)).mono ?_
        rintro en w1 ⟨rfl, b1⟩
        have l1 := (b1.block _ (blk_ltP g0)).trans g0
        have hc := rpfew_is _ p w1 (hu.below (bthen b0 b1))
        rw [hf] at hc
        go_wp2_with (refine wpList_ldP rfl (.tmp 3) rfl w.heap.size rfl cp hs l1 ?_)
        with_reducible refine hc.mono ?_
        rintro en w2 ⟨rfl, b2⟩
        clear hc l1
        have l2 := ((bthen b1 b2).block _ (blk_ltP g1)).trans g1
        have hc := rpfew_is _ o w2 (hv.below (bthen b0 (bthen b1 b2)))
        rw [hf2] at hc
        go_wp2_with (refine wpList_ldP rfl (.tmp 4) rfl (w.heap.size + 1) rfl co hs2 l2 ?_)
        with_reducible refine hc.mono ?_
        rintro en w3 ⟨rfl, b3⟩
        clear hc l2
        go_wp2
        go_ret
        exact ⟨rfl, bthen b0 (bthen b1 (bthen b2 b3))⟩
    | false =>
      obtain ⟨w0, hw0⟩ : ∃ w0, (w.alloc (.cells cp 27)).alloc (.cells co 27) = w0 := ⟨_, rfl⟩
      have b0 : Below w.heap.size w w0 := by rw [← hw0]; exact pkeep_alloc (pkeep_alloc (Below.refl _ _) _) _
      have g0 : w0.heap[w.heap.size]? = some (.cells cp 27 (0, 0)) := by rw [← hw0, alloc_old _ _ _ (by rw [size_alloc]; omega)]; exact alloc_at _ _ _ rfl
      have g1 : w0.heap[w.heap.size + 1]? = some (.cells co 27 (0, 0)) := by rw [← hw0]; exact alloc_at _ _ _ (by rw [size_alloc])
      have HW0 := hidT hw0
      clear hw0
      go_enter Tryd.func5, Tryd.ntmps5
      go_wp2_with fail
      rw [HW0.out]
      clear HW0
      with_reducible refine (pshown_any _ (hw.below b0)).mono ?_
      rintro en w1 ⟨rfl, b1⟩
      have l1 := (b1.block _ (blk_ltP g0)).trans g0
      have hc := rpfew_is _ p w1 (hu.below (bthen b0 b1))
      rw [hf] at hc
      go_wp2_with (refine wpList_ldP rfl (.tmp 3) rfl w.heap.size rfl cp hs l1 ?_)
      with_reducible refine hc.mono ?_
      rintro en w2 ⟨rfl, b2⟩
      clear hc l1
      have l2 := ((bthen b1 b2).block _ (blk_ltP g1)).trans g1
      have hc := rpfew_is _ o w2 (hv.below (bthen b0 (bthen b1 b2)))
      rw [hf2] at hc
      go_wp2_with (refine wpList_ldP rfl (.tmp 4) rfl (w.heap.size + 1) rfl co hs2 l2 ?_)
      with_reducible refine hc.mono ?_
      rintro en w3 ⟨rfl, b3⟩
      clear hc l2
      go_wp2
      go_ret
      exact ⟨rfl, bthen b0 (bthen b1 (bthen b2 b3))⟩
  | false =>
    obtain ⟨w0, hw0⟩ : ∃ w0, (w.alloc (.cells cp 27)).alloc (.cells co 27) = w0 := ⟨_, rfl⟩
    have b0 : Below w.heap.size w w0 := by rw [← hw0]; exact pkeep_alloc (pkeep_alloc (Below.refl _ _) _) _
    have g0 : w0.heap[w.heap.size]? = some (.cells cp 27 (0, 0)) := by rw [← hw0, alloc_old _ _ _ (by rw [size_alloc]; omega)]; exact alloc_at _ _ _ rfl
    have g1 : w0.heap[w.heap.size + 1]? = some (.cells co 27 (0, 0)) := by rw [← hw0]; exact alloc_at _ _ _ (by rw [size_alloc])
    have HW0 := hidT hw0
    clear hw0
    go_enter Tryd.func5, Tryd.ntmps5
    go_wp2_with fail
    rw [HW0.out]
    clear HW0
    with_reducible refine (pshown_any _ (hw.below b0)).mono ?_
    rintro en w1 ⟨rfl, b1⟩
    have l1 := (b1.block _ (blk_ltP g0)).trans g0
    have hc := rpfew_is _ p w1 (hu.below (bthen b0 b1))
    rw [hf] at hc
    go_wp2_with (refine wpList_ldP rfl (.tmp 3) rfl w.heap.size rfl cp hs l1 ?_)
    with_reducible refine hc.mono ?_
    rintro en w2 ⟨rfl, b2⟩
    clear hc l1
    go_wp2
    go_ret
    exact ⟨rfl, bthen b0 (bthen b1 b2)⟩
end Go.Proofs.YtahkhideepncfaaDoor
