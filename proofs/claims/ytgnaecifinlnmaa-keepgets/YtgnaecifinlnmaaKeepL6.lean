/- The law KeepGets, walked. -/
import Derived.Test.YtgnaecifinlnmaaKShown
import Derived.Test.YtgnaecifinlnmaaRKeep1
import Derived.Test.YtgnaecifinlnmaaRKeep2
import Derived.Deep.QuietTactic
set_option maxRecDepth 100000
namespace Go.Proofs.Ytgnaecifinlnmaa
open Go.RowKit
set_option linter.unusedVariables false

set_option maxHeartbeats 4000000 in
theorem kgets_any (A : Option Addr) (n c : Nat) (k : Keep.Kp) (s : Int) (w : World) (hX : RdX w A n c k.l) (hs : -9223372036854775808 ≤ s ∧ s ≤ 9223372036854775807) :
    Calls Try.prog 7 #[.agg #[.int .i64 k.next, .slice A n c], .int .i64 s] w (Yes w) := by
  have hn := hX.le
  have y0 := alloc_at w (.cells #[.int .i64 k.next, .slice A n c] 24) _ rfl
  have hb0 := nkeep w (.cells #[.int .i64 k.next, .slice A n c] 24)
  obtain ⟨g, hg⟩ : ∃ g, w.heap.size = g := ⟨_, rfl⟩
  rw [hg] at y0
  have Y0 := hidT y0
  have HB0 := hidT hb0
  have HX := hidT hX
  have HS := hidT hs
  clear y0 hb0 hX hs
  go_enter Try.func7, Try.ntmps7
  go_wp2_with fail
  with_reducible refine (kshown_any _).mono ?_
  rintro e w1 ⟨rfl, hb1⟩
  have Y1 := hidT (keepH Y0.out hb1)
  have HB1 := hidT (bthen HB0.out hb1)
  clear hb1 Y0 HB0 hg
  obtain ⟨i0, i1⟩ := cells2 Y1.out
  have hf := fewK_is A n c k.l w1 (HX.out.below HB1.out)
  go_wp2_with fail
  cases hfew : fewK k.l with
  | false =>
    rw [hfew] at hf
    with_reducible refine hf.mono ?_
    rintro e w2 ⟨rfl, hb2⟩
    go_wp2
    go_ret
    exact ⟨rfl, bthen HB1.out hb2⟩
  | true =>
    rw [hfew] at hf
    have HSM := hidT (fewK_small hfew)
    clear hfew
    with_reducible refine hf.mono ?_
    rintro e w2 ⟨rfl, hb2⟩
    have Y2 := hidT (keepH Y1.out hb2)
    have HB2 := hidT (bthen HB1.out hb2)
    clear hb2 Y1 HB1 hf i0 i1
    obtain ⟨i0, i1⟩ := cells2 Y2.out
    have hr := rright_any (.agg #[.int .i64 k.next, .slice A n c]) k w2 ⟨A, n, c, rfl, HX.out.below HB2.out⟩
    go_wp2_with fail
    cases hri : Keep.right k with
    | false =>
      rw [hri] at hr
      with_reducible refine hr.mono ?_
      rintro e w3 ⟨rfl, hb3⟩
      go_wp2
      go_ret
      exact ⟨rfl, bthen HB2.out hb3⟩
    | true =>
      rw [hri] at hr
      have HR := hidT hri
      clear hri
      with_reducible refine hr.mono ?_
      rintro e w3 ⟨rfl, hb3⟩
      have Y3 := hidT (keepH Y2.out hb3)
      have HB3 := hidT (bthen HB2.out hb3)
      clear hb3 Y2 HB2 hr i0 i1
      obtain ⟨i0, i1⟩ := cells2 Y3.out
      obtain ⟨⟨r1, r2, r3⟩, _, _⟩ := Keep.right_iff.1 HR.out
      have hlen := HX.out.size
      rw [hlen] at r1
      have hgt := get_any (.agg #[.int .i64 k.next, .slice A n c]) k s w3 ⟨A, n, c, rfl, HX.out.below HB3.out⟩ HSM.out
      rcases Keep.got_right HR.out s with ⟨x, hgx, ⟨hlo, hhi⟩, hjx⟩ | ⟨hgx, hno⟩
      · have hxq := (Keep.got_some hgx).1
        rw [hgx] at hgt
        rw [hlen] at hlo hjx
        obtain ⟨j, hj⟩ : ∃ j : Nat, (s - (k.next - (n : Int))).toNat = j := ⟨_, rfl⟩
        rw [hj] at hjx
        have hjs : s - (k.next - (n : Int)) = (j : Int) := by omega
        have hjn : j < n := by omega
        obtain ⟨b, o, x', LA, ln, lc, BA, bn, bc, rfl, hx', hi', hcs⟩ := HX.out.told hjn
        rw [hjx] at hx'
        injection hx' with hx'
        subst hx'
        have HJS := hidT hjs
        have HI' := hidT hi'
        have HCS := hidT hcs
        have HXQ := hidT hxq
        have HHI := hidT hhi
        have HLO := hidT hlo
        clear hi' hcs hjx hj hgx hjs hxq hhi hlo hlen
        go_wp2_with fail
        with_reducible refine hgt.mono ?_
        rintro e w4 ⟨v4, rfl, hI4, hb4⟩
        obtain ⟨LA4, ln4, lc4, BA4, bn4, bc4, ev4, hl4, hbb4⟩ := id hI4
        have ev4' : v4 = .agg #[.int .i64 x.k, .int .i64 x.q, .int .i64 x.e, .int .i64 x.i, .int .i64 x.t, .int .i64 x.c, .slice LA4 ln4 lc4, .slice BA4 bn4 bc4] := ev4
        clear ev4 hl4 hbb4
        subst ev4'
        have z1 := alloc_at w4 (.cells #[.int .i64 x.k, .int .i64 x.q, .int .i64 x.e, .int .i64 x.i, .int .i64 x.t, .int .i64 x.c, .slice LA4 ln4 lc4, .slice BA4 bn4 bc4] 28) _ rfl
        have z3 := nkeep w4 (.cells #[.int .i64 x.k, .int .i64 x.q, .int .i64 x.e, .int .i64 x.i, .int .i64 x.t, .int .i64 x.c, .slice LA4 ln4 lc4, .slice BA4 bn4 bc4] 28)
        have hb5 := bthen hb4 z3
        have Y5 := hidT (keepH Y3.out hb5)
        have HB5 := hidT (bthen HB3.out hb5)
        obtain ⟨i0, i1⟩ := cells2 Y5.out
        obtain ⟨m0, m1, m2, m3, m4, m5, m6, m7⟩ := cells8 z1
        have Z1 := hidT z1
        have HI4 := hidT (hI4.below z3)
        obtain ⟨p, hp⟩ : ∃ p, w4.heap.size = p := ⟨_, rfl⟩
        rw [hp] at Z1 m0 m1 m2 m3 m4 m5 m6 m7
        have q1 : decide (s < k.next) = true := by simpa using HHI.out
        have q2 : decide (k.next - (n : Int) ≤ s) = true := by simpa using HLO.out
        have q3 : (x.q != s) = false := by simpa using HXQ.out
        have q4 : (x.q == s) = true := by simpa using HXQ.out
        have HP := hidT hp
        clear z1 z3 hb4 hb5 hI4 hgt Y3 HB3
        obtain ⟨W, hW⟩ : ∃ W, w4.alloc (.cells #[.int .i64 x.k, .int .i64 x.q, .int .i64 x.e, .int .i64 x.i, .int .i64 x.t, .int .i64 x.c, .slice LA4 ln4 lc4, .slice BA4 bn4 bc4] 28) = W := ⟨_, rfl⟩
        rw [hW] at Y5 HB5 Z1 HI4
        have HW := hidT hW
        clear hW
        go_wp2_with fail
        rw [HW.out]
        clear hp i0 i1 m0 m1 m2 m3 m4 m5 m6 m7 q1 q2 q3 q4
        have k0 := fun w' (hb : Below W.heap.size W w') => (cells2 (keepH Y5.out hb)).1
        have k1 := fun w' (hb : Below W.heap.size W w') => (cells2 (keepH Y5.out hb)).2
        have kb : ∀ w', Below W.heap.size W w' → Below w.heap.size w w' := fun w' hb => bthen HB5.out hb
        have z0 := fun w' (hb : Below W.heap.size W w') => (cells8 (keepH Z1.out hb)).1
        have z1 := fun w' (hb : Below W.heap.size W w') => (cells8 (keepH Z1.out hb)).2.1
        have z2 := fun w' (hb : Below W.heap.size W w') => (cells8 (keepH Z1.out hb)).2.2.1
        have z3 := fun w' (hb : Below W.heap.size W w') => (cells8 (keepH Z1.out hb)).2.2.2.1
        have z4 := fun w' (hb : Below W.heap.size W w') => (cells8 (keepH Z1.out hb)).2.2.2.2.1
        have z5 := fun w' (hb : Below W.heap.size W w') => (cells8 (keepH Z1.out hb)).2.2.2.2.2.1
        have z6 := fun w' (hb : Below W.heap.size W w') => (cells8 (keepH Z1.out hb)).2.2.2.2.2.2.1
        have z7 := fun w' (hb : Below W.heap.size W w') => (cells8 (keepH Z1.out hb)).2.2.2.2.2.2.2
        have u0 := fun w' (hb : Below W.heap.size W w') => (HCS.out w' (kb w' hb)).1
        have u1 := fun w' (hb : Below W.heap.size W w') => (HCS.out w' (kb w' hb)).2.1
        have u2 := fun w' (hb : Below W.heap.size W w') => (HCS.out w' (kb w' hb)).2.2.1
        have u3 := fun w' (hb : Below W.heap.size W w') => (HCS.out w' (kb w' hb)).2.2.2.1
        have u4 := fun w' (hb : Below W.heap.size W w') => (HCS.out w' (kb w' hb)).2.2.2.2.1
        have u5 := fun w' (hb : Below W.heap.size W w') => (HCS.out w' (kb w' hb)).2.2.2.2.2.1
        have u6 := fun w' (hb : Below W.heap.size W w') => (HCS.out w' (kb w' hb)).2.2.2.2.2.2.1
        have u7 := fun w' (hb : Below W.heap.size W w') => (HCS.out w' (kb w' hb)).2.2.2.2.2.2.2
        have HSAME : Hid (∀ w', Below W.heap.size W w' → Calls Try.prog 24 #[.agg #[.int .i64 x.k, .int .i64 x.q, .int .i64 x.e, .int .i64 x.i, .int .i64 x.t, .int .i64 x.c, .slice LA4 ln4 lc4, .slice BA4 bn4 bc4], .agg #[.int .i64 x.k, .int .i64 x.q, .int .i64 x.e, .int .i64 x.i, .int .i64 x.t, .int .i64 x.c, .slice LA ln lc, .slice BA bn bc]] w' (BoolIs w' true)) := hidT fun w' hb => rsameI_is _ _ x x w' (HI4.out.below hb) (HI'.out.below (bthen HB5.out hb)) true (by simp)
        have s1 : IntKind.i64.wrap (k.next - (n : Int)) = k.next - (n : Int) := IntWalk.i64_in _ (by omega)
        have s2 : IntKind.i64.wrap (s - (k.next - (n : Int))) = (j : Int) := by rw [HJS.out]; exact IntWalk.i64_in _ (by omega)
        have x1 : (0 : Int) ≤ (j : Int) := by omega
        have x2 : (j : Int) < (n : Int) := by omega
        clear kb
        go_region_held_law (fun w' => Below W.heap.size W w')
          (first | exact (Below.refl _ _).drew | exact Below.refl _ _ | exact hb6)
          (first
            | (go_at_call 24
               with_reducible refine (HSAME.out _ (Below.refl _ _).drew).mono ?_
               rintro e6 w6 ⟨rfl, hb6'⟩
               have hb6 : Below W.heap.size W w6 := undrew hb6')
            | fail)
        go_wp2
        go_ret
        exact ⟨rfl, bthen HB5.out hb6⟩
      · rw [hgx] at hgt
        rw [hlen] at hno
        have HNO := hidT hno
        clear hno hgx hlen
        go_wp2_with fail
        with_reducible refine hgt.mono ?_
        rintro e w4 ⟨v4, rfl, hI4, hb4⟩
        obtain ⟨LA4, ln4, lc4, BA4, bn4, bc4, ev4, hl4, hbb4⟩ := id hI4
        have ev4' : v4 = .agg #[.int .i64 0, .int .i64 0, .int .i64 0, .int .i64 0, .int .i64 0, .int .i64 0, .slice LA4 ln4 lc4, .slice BA4 bn4 bc4] := ev4
        clear ev4 hl4 hbb4
        subst ev4'
        have z1 := alloc_at w4 (.cells #[.int .i64 0, .int .i64 0, .int .i64 0, .int .i64 0, .int .i64 0, .int .i64 0, .slice LA4 ln4 lc4, .slice BA4 bn4 bc4] 28) _ rfl
        have z3 := nkeep w4 (.cells #[.int .i64 0, .int .i64 0, .int .i64 0, .int .i64 0, .int .i64 0, .int .i64 0, .slice LA4 ln4 lc4, .slice BA4 bn4 bc4] 28)
        have hb5 := bthen hb4 z3
        have Y5 := hidT (keepH Y3.out hb5)
        have HB5 := hidT (bthen HB3.out hb5)
        obtain ⟨i0, i1⟩ := cells2 Y5.out
        obtain ⟨m0, m1, m2, m3, m4, m5, m6, m7⟩ := cells8 z1
        have Z1 := hidT z1
        obtain ⟨p, hp⟩ : ∃ p, w4.heap.size = p := ⟨_, rfl⟩
        rw [hp] at Z1 m0 m1 m2 m3 m4 m5 m6 m7
        have HP := hidT hp
        clear z1 z3 hb4 hb5 hI4 hgt Y3 HB3
        obtain ⟨W, hW⟩ : ∃ W, w4.alloc (.cells #[.int .i64 0, .int .i64 0, .int .i64 0, .int .i64 0, .int .i64 0, .int .i64 0, .slice LA4 ln4 lc4, .slice BA4 bn4 bc4] 28) = W := ⟨_, rfl⟩
        rw [hW] at Y5 HB5 Z1
        have HW := hidT hW
        clear hW
        by_cases hlt : s < k.next
        · have q1 : decide (s < k.next) = true := by simpa using hlt
          have q2 : decide (k.next - (n : Int) ≤ s) = false := by
            have := HNO.out
            simp; omega
          clear hlt
          go_wp2_with fail
          rw [HW.out]
          clear hp i0 i1 m0 m1 m2 m3 m4 m5 m6 m7 q1 q2
          go_quiet (fail)
          go_wp2
          go_ret
          exact ⟨rfl, bthen HB5.out (drawn_below _ _)⟩
        · have q1 : decide (s < k.next) = false := by simpa using hlt
          clear hlt
          go_wp2_with fail
          rw [HW.out]
          clear hp i0 i1 m0 m1 m2 m3 m4 m5 m6 m7 q1
          go_quiet (fail)
          go_wp2
          go_ret
          exact ⟨rfl, bthen HB5.out (drawn_below _ _)⟩
end Go.Proofs.Ytgnaecifinlnmaa
