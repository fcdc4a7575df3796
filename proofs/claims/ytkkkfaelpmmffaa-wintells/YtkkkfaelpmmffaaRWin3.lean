/- What the document's own Gap comes to. -/
import Derived.Test.YtkkkfaelpmmffaaRWin1
set_option maxRecDepth 100000
namespace Go.Proofs.Ytkkkfaelpmmffaa
open Go.RowKit
set_option linter.unusedVariables false

set_option maxHeartbeats 4000000 in
theorem rwgap_any (v : Value) (k : Keep.Kp) (top : Int) (w : World) (h : IsKeep w v k) (hr : Win.right k = true) :
    Calls Try.prog 24 #[v, .int .i64 top] w (GapIs w (Win.gap k top)) := by
  obtain ⟨A, n, c, rfl, hX⟩ := h
  have hn := hX.le
  have hlen := hX.size
  obtain ⟨⟨r1, r2, r3⟩, hm, hri⟩ := Win.right_iff.1 hr
  rw [hlen] at r1
  have t0 := alloc_at w (.cells #[.int .i64 k.next, .slice A n c] 24) _ rfl
  have hb := nkeep w (.cells #[.int .i64 k.next, .slice A n c] 24)
  obtain ⟨i0, i1⟩ := cells2 t0
  obtain ⟨W, hW⟩ : ∃ W, w.alloc (.cells #[.int .i64 k.next, .slice A n c] 24) = W := ⟨_, rfl⟩
  rw [hW] at t0 hb
  have HW := hidT hW
  have hrl := Win.run_le k.next k.l
  rw [hlen] at hrl
  obtain ⟨R, hR⟩ : ∃ R, Win.run k.next k.l = R := ⟨_, rfl⟩
  rw [hR] at hrl
  obtain ⟨G, hG⟩ : ∃ G, Win.gap k top = G := ⟨_, rfl⟩
  rw [hG]
  obtain ⟨g, hg⟩ : ∃ g, w.heap.size = g := ⟨_, rfl⟩
  rw [hg] at t0 i0 i1
  have HRI := hidT hri
  have HR := hidT hR
  have HG := hidT hG
  have HX := hidT hX
  have T0 := hidT t0
  have HB := hidT hb
  have HGG := hidT hg
  clear hm hri hR hX t0 hb hW hG hr hlen
  by_cases htop : 4611686018427387904 < top
  · have q1 : decide (4611686018427387904 < top) = true := by simpa using htop
    have hto : Win.topOf top = 4611686018427387904 := by unfold Win.topOf; rw [if_pos htop]
    have HTO := hidT hto
    clear htop hto
    go_enter Try.func24, Try.ntmps24
    go_wp2_with fail
    rw [HW.out]
    clear hg
    go_loopw [6] (fun lo wr => ∃ j : Nat, j ≤ R ∧ lo = .int .i64 (k.next + (j : Int)) ∧ Hid (Below W.heap.size W wr)) (fun lo _ => (k.next + (R : Int) + 1 - intOf lo).toNat)
    case atStart => exact ⟨0, Nat.zero_le _, by simp, hidT (Below.refl _ _)⟩
    case round =>
      obtain ⟨j, hj, rfl, HBr⟩ := hrel
      obtain ⟨i0, i1⟩ := cells2 (keepH T0.out HBr.out)
      have hwt := rwaits_any (.agg #[.int .i64 k.next, .slice A n c]) k (k.next + (j : Int)) wr ⟨A, n, c, rfl, HX.out.below (bthen HB.out HBr.out)⟩
      by_cases hjR : j < R
      · rw [Win.waits_run (s := k.next) (by omega) (by rw [HR.out]; omega)] at hwt
        have s1 : IntKind.i64.wrap (k.next + (j : Int) + 1) = k.next + (j : Int) + 1 := IntWalk.i64_in _ (by omega)
        have s2 : wrap64 (k.next + (j : Int) + 1) = k.next + (j : Int) + 1 := IntWalk.wrap64_in _ (by omega)
        go_wp2_with fail
        with_reducible refine hwt.mono ?_
        rintro e w5 ⟨rfl, hb5⟩
        have HB5 := hidT (bthen HBr.out hb5)
        clear hb5 hwt i0 i1
        go_wp2
        exact ⟨⟨j + 1, by omega, by first | rfl | go_num | exact congrArg (Value.int IntKind.i64) (by push_cast; omega), HB5⟩, by simp [intOf]; omega⟩
      · obtain rfl : R = j := by omega
        rw [show k.next + (R : Int) = Win.fst k from by rw [← HR.out]; rfl, Win.fst_free HRI.out, show Win.fst k = k.next + (R : Int) from by rw [← HR.out]; rfl] at hwt
        go_wp2_with fail
        with_reducible refine hwt.mono ?_
        rintro e w5 ⟨rfl, hb5⟩
        have HB5 := hidT (bthen HBr.out hb5)
        clear hb5 hwt i0 i1 hj hjR
        by_cases hTF : 4611686018427387904 < k.next + (R : Int)
        · have q2 : decide (4611686018427387904 < k.next + (R : Int)) = true := by simpa using hTF
          have hg0 : G = (0, 0) := by
            rw [← HG.out]
            refine Win.gap_none ((Win.lst_far HRI.out top).2 ?_)
            rw [HTO.out]
            show 4611686018427387904 < k.next + (Win.run k.next k.l : Int)
            rw [HR.out]
            exact hTF
          clear hTF
          subst hg0
          go_wp2
          go_ret2
          exact ⟨rfl, bthen HB.out HB5.out⟩
        · have q2 : decide (4611686018427387904 < k.next + (R : Int)) = false := by simpa using hTF
          have hfl : Win.fst k ≤ Win.lst k top := by
            refine Int.not_lt.1 fun h => hTF ?_
            have := (Win.lst_far HRI.out top).1 h
            rw [HTO.out] at this
            rw [← HR.out]
            exact this
          obtain ⟨M, hM⟩ : ∃ M, Win.many k top = M := ⟨_, rfl⟩
          have hmp := Win.many_pos hfl
          rw [hM] at hmp
          obtain ⟨hM1, hM64⟩ := hmp
          have hg1 : G = (k.next + (R : Int), M) := by
            rw [← HG.out, Win.gap_some hfl, hM, ← HR.out]
            rfl
          have HMM : Hid (∀ m : Nat, (m : Int) ≤ M → ((m : Int) < M ↔ ((m : Int) < 64 ∧ k.next + (R : Int) + m ≤ 4611686018427387904 ∧ Win.waits k.l (k.next + (R : Int) + m) = false))) := hidT fun m hm => by
            have := Win.many_more HRI.out hfl (n := m) (by rw [hM]; exact hm)
            rw [hM, HTO.out, show Win.fst k = k.next + (R : Int) from by rw [← HR.out]; rfl] at this
            exact this
          clear hfl hM hTF
          subst hg1
          go_wp2_with fail
          go_loopw [7] (fun nn wr => ∃ m : Nat, (m : Int) ≤ M ∧ nn = .int .i64 (m : Int) ∧ Hid (Below W.heap.size W wr)) (fun nn _ => (M + 1 - intOf nn).toNat)
          case atStart => exact ⟨0, by omega, rfl, HB5⟩
          case round =>
            obtain ⟨m, hm, rfl, HBr⟩ := hrel
            obtain ⟨i0, i1⟩ := cells2 (keepH T0.out HBr.out)
            have hmm := HMM.out m hm
            have hwt := rwaits_any (.agg #[.int .i64 k.next, .slice A n c]) k (k.next + (R : Int) + m) wr ⟨A, n, c, rfl, HX.out.below (bthen HB.out HBr.out)⟩
            have s3 : IntKind.i64.wrap (k.next + (R : Int) + (m : Int)) = k.next + (R : Int) + (m : Int) := IntWalk.i64_in _ (by omega)
            have s4 : wrap64 (k.next + (R : Int) + (m : Int)) = k.next + (R : Int) + (m : Int) := IntWalk.wrap64_in _ (by omega)
            by_cases hmM : (m : Int) < M
            · obtain ⟨g1, g2, g3⟩ := hmm.1 hmM
              rw [g3] at hwt
              have q3 : decide ((m : Int) < 64) = true := by simpa using g1
              have q3' : decide (m < 64) = true := by simp; omega
              have q4 : decide (k.next + (R : Int) + (m : Int) ≤ 4611686018427387904) = true := by simpa using g2
              clear hmm g1 g2 g3
              go_wp2_with fail
              with_reducible refine hwt.mono ?_
              rintro e w6 ⟨rfl, hb6⟩
              have HB6 := hidT (bthen HBr.out hb6)
              clear hb6 hwt i0 i1
              go_wp2
              exact ⟨⟨m + 1, by push_cast; omega, by go_num, HB6⟩, by simp [intOf]; omega⟩
            · have hmE : M = (m : Int) := by omega
              subst hmE
              by_cases g1 : (m : Int) < 64
              · have q3 : decide ((m : Int) < 64) = true := by simpa using g1
                have q3' : decide (m < 64) = true := by simp; omega
                by_cases g2 : k.next + (R : Int) + (m : Int) ≤ 4611686018427387904
                · have q4 : decide (k.next + (R : Int) + (m : Int) ≤ 4611686018427387904) = true := by simpa using g2
                  have g3 : Win.waits k.l (k.next + (R : Int) + m) = true := by
                    cases hw : Win.waits k.l (k.next + (R : Int) + m) with
                    | true => rfl
                    | false => exact absurd (hmm.2 ⟨g1, g2, hw⟩) hmM
                  rw [g3] at hwt
                  clear hmm g1 g2 g3 hmM
                  go_wp2_with fail
                  with_reducible refine hwt.mono ?_
                  rintro e w6 ⟨rfl, hb6⟩
                  go_wp2
                  go_ret2
                  exact ⟨rfl, bthen HB.out (bthen HBr.out hb6)⟩
                · have q4 : decide (k.next + (R : Int) + (m : Int) ≤ 4611686018427387904) = false := by simpa using g2
                  clear hmm g1 g2 hmM hwt
                  go_wp2
                  go_ret2
                  exact ⟨rfl, bthen HB.out HBr.out⟩
              · have q3 : decide ((m : Int) < 64) = false := by simpa using g1
                have q3' : decide (m < 64) = false := by simp; omega
                clear hmm g1 hmM hwt
                go_wp2
                go_ret2
                exact ⟨rfl, bthen HB.out HBr.out⟩

  · have q1 : decide (4611686018427387904 < top) = false := by simpa using htop
    have hto : Win.topOf top = top := by unfold Win.topOf; rw [if_neg htop]
    have HTO := hidT hto
    have ht2 : top ≤ 4611686018427387904 := by omega
    clear htop hto
    go_enter Try.func24, Try.ntmps24
    go_wp2_with fail
    rw [HW.out]
    clear hg
    go_loopw [6] (fun lo wr => ∃ j : Nat, j ≤ R ∧ lo = .int .i64 (k.next + (j : Int)) ∧ Hid (Below W.heap.size W wr)) (fun lo _ => (k.next + (R : Int) + 1 - intOf lo).toNat)
    case atStart => exact ⟨0, Nat.zero_le _, by simp, hidT (Below.refl _ _)⟩
    case round =>
      obtain ⟨j, hj, rfl, HBr⟩ := hrel
      obtain ⟨i0, i1⟩ := cells2 (keepH T0.out HBr.out)
      have hwt := rwaits_any (.agg #[.int .i64 k.next, .slice A n c]) k (k.next + (j : Int)) wr ⟨A, n, c, rfl, HX.out.below (bthen HB.out HBr.out)⟩
      by_cases hjR : j < R
      · rw [Win.waits_run (s := k.next) (by omega) (by rw [HR.out]; omega)] at hwt
        have s1 : IntKind.i64.wrap (k.next + (j : Int) + 1) = k.next + (j : Int) + 1 := IntWalk.i64_in _ (by omega)
        have s2 : wrap64 (k.next + (j : Int) + 1) = k.next + (j : Int) + 1 := IntWalk.wrap64_in _ (by omega)
        go_wp2_with fail
        with_reducible refine hwt.mono ?_
        rintro e w5 ⟨rfl, hb5⟩
        have HB5 := hidT (bthen HBr.out hb5)
        clear hb5 hwt i0 i1
        go_wp2
        exact ⟨⟨j + 1, by omega, by first | rfl | go_num | exact congrArg (Value.int IntKind.i64) (by push_cast; omega), HB5⟩, by simp [intOf]; omega⟩
      · obtain rfl : R = j := by omega
        rw [show k.next + (R : Int) = Win.fst k from by rw [← HR.out]; rfl, Win.fst_free HRI.out, show Win.fst k = k.next + (R : Int) from by rw [← HR.out]; rfl] at hwt
        go_wp2_with fail
        with_reducible refine hwt.mono ?_
        rintro e w5 ⟨rfl, hb5⟩
        have HB5 := hidT (bthen HBr.out hb5)
        clear hb5 hwt i0 i1 hj hjR
        by_cases hTF : top < k.next + (R : Int)
        · have q2 : decide (top < k.next + (R : Int)) = true := by simpa using hTF
          have hg0 : G = (0, 0) := by
            rw [← HG.out]
            refine Win.gap_none ((Win.lst_far HRI.out top).2 ?_)
            rw [HTO.out]
            show top < k.next + (Win.run k.next k.l : Int)
            rw [HR.out]
            exact hTF
          clear hTF
          subst hg0
          go_wp2
          go_ret2
          exact ⟨rfl, bthen HB.out HB5.out⟩
        · have q2 : decide (top < k.next + (R : Int)) = false := by simpa using hTF
          have hfl : Win.fst k ≤ Win.lst k top := by
            refine Int.not_lt.1 fun h => hTF ?_
            have := (Win.lst_far HRI.out top).1 h
            rw [HTO.out] at this
            rw [← HR.out]
            exact this
          obtain ⟨M, hM⟩ : ∃ M, Win.many k top = M := ⟨_, rfl⟩
          have hmp := Win.many_pos hfl
          rw [hM] at hmp
          obtain ⟨hM1, hM64⟩ := hmp
          have hg1 : G = (k.next + (R : Int), M) := by
            rw [← HG.out, Win.gap_some hfl, hM, ← HR.out]
            rfl
          have HMM : Hid (∀ m : Nat, (m : Int) ≤ M → ((m : Int) < M ↔ ((m : Int) < 64 ∧ k.next + (R : Int) + m ≤ top ∧ Win.waits k.l (k.next + (R : Int) + m) = false))) := hidT fun m hm => by
            have := Win.many_more HRI.out hfl (n := m) (by rw [hM]; exact hm)
            rw [hM, HTO.out, show Win.fst k = k.next + (R : Int) from by rw [← HR.out]; rfl] at this
            exact this
          clear hfl hM hTF
          subst hg1
          go_wp2_with fail
          go_loopw [7] (fun nn wr => ∃ m : Nat, (m : Int) ≤ M ∧ nn = .int .i64 (m : Int) ∧ Hid (Below W.heap.size W wr)) (fun nn _ => (M + 1 - intOf nn).toNat)
          case atStart => exact ⟨0, by omega, rfl, HB5⟩
          case round =>
            obtain ⟨m, hm, rfl, HBr⟩ := hrel
            obtain ⟨i0, i1⟩ := cells2 (keepH T0.out HBr.out)
            have hmm := HMM.out m hm
            have hwt := rwaits_any (.agg #[.int .i64 k.next, .slice A n c]) k (k.next + (R : Int) + m) wr ⟨A, n, c, rfl, HX.out.below (bthen HB.out HBr.out)⟩
            have s3 : IntKind.i64.wrap (k.next + (R : Int) + (m : Int)) = k.next + (R : Int) + (m : Int) := IntWalk.i64_in _ (by omega)
            have s4 : wrap64 (k.next + (R : Int) + (m : Int)) = k.next + (R : Int) + (m : Int) := IntWalk.wrap64_in _ (by omega)
            by_cases hmM : (m : Int) < M
            · obtain ⟨g1, g2, g3⟩ := hmm.1 hmM
              rw [g3] at hwt
              have q3 : decide ((m : Int) < 64) = true := by simpa using g1
              have q3' : decide (m < 64) = true := by simp; omega
              have q4 : decide (k.next + (R : Int) + (m : Int) ≤ top) = true := by simpa using g2
              clear hmm g1 g2 g3
              go_wp2_with fail
              with_reducible refine hwt.mono ?_
              rintro e w6 ⟨rfl, hb6⟩
              have HB6 := hidT (bthen HBr.out hb6)
              clear hb6 hwt i0 i1
              go_wp2
              exact ⟨⟨m + 1, by push_cast; omega, by go_num, HB6⟩, by simp [intOf]; omega⟩
            · have hmE : M = (m : Int) := by omega
              subst hmE
              by_cases g1 : (m : Int) < 64
              · have q3 : decide ((m : Int) < 64) = true := by simpa using g1
                have q3' : decide (m < 64) = true := by simp; omega
                by_cases g2 : k.next + (R : Int) + (m : Int) ≤ top
                · have q4 : decide (k.next + (R : Int) + (m : Int) ≤ top) = true := by simpa using g2
                  have g3 : Win.waits k.l (k.next + (R : Int) + m) = true := by
                    cases hw : Win.waits k.l (k.next + (R : Int) + m) with
                    | true => rfl
                    | false => exact absurd (hmm.2 ⟨g1, g2, hw⟩) hmM
                  rw [g3] at hwt
                  clear hmm g1 g2 g3 hmM
                  go_wp2_with fail
                  with_reducible refine hwt.mono ?_
                  rintro e w6 ⟨rfl, hb6⟩
                  go_wp2
                  go_ret2
                  exact ⟨rfl, bthen HB.out (bthen HBr.out hb6)⟩
                · have q4 : decide (k.next + (R : Int) + (m : Int) ≤ top) = false := by simpa using g2
                  clear hmm g1 g2 hmM hwt
                  go_wp2
                  go_ret2
                  exact ⟨rfl, bthen HB.out HBr.out⟩
              · have q3 : decide ((m : Int) < 64) = false := by simpa using g1
                have q3' : decide (m < 64) = false := by simp; omega
                clear hmm g1 hmM hwt
                go_wp2
                go_ret2
                exact ⟨rfl, bthen HB.out HBr.out⟩

end Go.Proofs.Ytkkkfaelpmmffaa
