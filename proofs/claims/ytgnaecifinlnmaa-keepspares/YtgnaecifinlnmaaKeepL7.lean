/- The law KeepSpares, walked. -/
import Derived.Test.YtgnaecifinlnmaaKShown
import Derived.Test.YtgnaecifinlnmaaRKeep1
import Derived.Test.YtgnaecifinlnmaaRKeep2
import Derived.Deep.QuietTactic
set_option maxRecDepth 100000
namespace Go.Proofs.Ytgnaecifinlnmaa
open Go.RowKit
set_option linter.unusedVariables false

theorem cells5 {w : World} {g : Nat} {a0 a1 a2 a3 a4 : Value} {t : TypeId} (h : w.heap[g]? = some (.cells #[a0, a1, a2, a3, a4] t (0, 0))) : w.cell? ⟨g, 0, none⟩ = some a0 ∧ w.cell? ⟨g, 1, none⟩ = some a1 ∧ w.cell? ⟨g, 2, none⟩ = some a2 ∧ w.cell? ⟨g, 3, none⟩ = some a3 ∧ w.cell? ⟨g, 4, none⟩ = some a4 := ⟨cell_at h 0 rfl, cell_at h 1 rfl, cell_at h 2 rfl, cell_at h 3 rfl, cell_at h 4 rfl⟩
theorem room0 {k : Keep.Kp} {N : Int} (hf : k.next ≤ 4611686018427387904) (h0 : 0 ≤ N) (h1 : N ≤ 64) : Keep.room k N 0 = if N - (k.l.length : Int) < 0 then 0 else N - (k.l.length : Int) := by
  unfold Keep.room
  split <;> split <;> omega
theorem room_less {k : Keep.Kp} {N x y : Int} (h0 : 0 ≤ x) (h : x ≤ y) : Keep.room k N y ≤ Keep.room k N x := by
  unfold Keep.room
  split <;> split <;> omega
theorem push_code {k : Keep.Kp} {N x : Int} (hr : Keep.right k = true) (hf : k.next ≤ 4611686018427387904) : (Keep.push k (Keep.tok 0) N x).code = if Keep.room k N x < 1 then 4 else 0 := by
  have h1 := (Keep.right_iff.1 hr).1.2.1
  have hm : Item.may (Keep.wq (Keep.tok 0) (Keep.qOf k)) = true := by
    have q : Keep.qOf k = k.next := by unfold Keep.qOf; rw [if_neg (by omega)]
    rw [q, Keep.wq_tok]
    exact Keep.may_tok h1 hf
  unfold Keep.push
  rw [if_neg (by simp [hm])]
  split <;> rfl
set_option maxHeartbeats 4000000 in
theorem kspares_any (A : Option Addr) (n c : Nat) (k : Keep.Kp) (p q r : Int) (w : World) (hX : RdX w A n c k.l) (hp : 0 ≤ p ∧ p < 256) (hq : 0 ≤ q ∧ q < 256) (hr : 0 ≤ r ∧ r < 256) :
    Calls Try.prog 8 #[.agg #[.int .i64 k.next, .slice A n c, .int .u8 p, .int .u8 q, .int .u8 r]] w (Yes w) := by
  have hn := hX.le
  have hlen := hX.size
  obtain ⟨y0, y1, hb0⟩ := two_alloc w (.cells #[.int .i64 k.next, .slice A n c, .int .u8 p, .int .u8 q, .int .u8 r] 55) (.cells #[.int .i64 k.next, .slice A n c] 24)
  obtain ⟨o0, o1, o2, o3, o4⟩ := cells5 y0
  obtain ⟨b0, b1, b2, b3, b4⟩ := cells5 (alloc_at w (.cells #[.int .i64 k.next, .slice A n c, .int .u8 p, .int .u8 q, .int .u8 r] 55) _ rfl)
  obtain ⟨g, hg⟩ : ∃ g, w.heap.size = g := ⟨_, rfl⟩
  rw [hg] at y1 o0 o1 o2 o3 o4 b0 b1 b2 b3 b4
  have Y0 := hidT y1
  have HB0 := hidT hb0
  have HX := hidT hX
  have HLEN := hidT hlen
  obtain ⟨hp0, hp1⟩ := hp
  obtain ⟨hq0, hq1⟩ := hq
  obtain ⟨hr0, hr1⟩ := hr
  clear y0 y1 hb0 hX hlen
  go_enter Try.func8, Try.ntmps8
  go_wp2_with fail
  with_reducible refine (kshown_any _).mono ?_
  rintro e w1 ⟨rfl, hb1⟩
  have Y1 := hidT (keepH Y0.out hb1)
  have HB1 := hidT (bthen HB0.out hb1)
  clear hb1 Y0 HB0 hg o0 o1 o2 o3 o4 b0 b1 b2 b3 b4
  obtain ⟨i0, i1⟩ := cells2 Y1.out
  have hf := fewK_is A n c k.l w1 (HX.out.below HB1.out)
  go_wp2_with fail
  cases hfew : fewK k.l with
  | false =>
    rw [hfew] at hf
    with_reducible refine hf.mono ?_
    rintro e w2 ⟨rfl, hb2⟩
    go_wp2
    go_ret
    exact ⟨rfl, bthen HB1.out hb2⟩
  | true =>
    rw [hfew] at hf
    have HSM := hidT (fewK_small hfew)
    clear hfew
    with_reducible refine hf.mono ?_
    rintro e w2 ⟨rfl, hb2⟩
    have Y2 := hidT (keepH Y1.out hb2)
    have HB2 := hidT (bthen HB1.out hb2)
    clear hb2 Y1 HB1 hf i0 i1
    obtain ⟨i0, i1⟩ := cells2 Y2.out
    have hri' := rright_any (.agg #[.int .i64 k.next, .slice A n c]) k w2 ⟨A, n, c, rfl, HX.out.below HB2.out⟩
    go_wp2_with fail
    cases hri : Keep.right k with
    | false =>
      rw [hri] at hri'
      with_reducible refine hri'.mono ?_
      rintro e w3 ⟨rfl, hb3⟩
      go_wp2
      go_ret
      exact ⟨rfl, bthen HB2.out hb3⟩
    | true =>
      rw [hri] at hri'
      have HR := hidT hri
      clear hri
      with_reducible refine hri'.mono ?_
      rintro e w3 ⟨rfl, hb3⟩
      have Y3 := hidT (keepH Y2.out hb3)
      have HB3 := hidT (bthen HB2.out hb3)
      clear hb3 Y2 HB2 hri' i0 i1
      obtain ⟨i0, i1⟩ := cells2 Y3.out
      obtain ⟨⟨r1, r2, r3⟩, _, _⟩ := Keep.right_iff.1 HR.out
      rw [HLEN.out] at r1
      by_cases hfar : 4611686018427387904 < k.next
      · have q1 : decide (4611686018427387904 < k.next) = true := by simpa using hfar
        clear hfar
        go_wp2
        go_ret
        exact ⟨rfl, HB3.out⟩
      · have q1 : decide (4611686018427387904 < k.next) = false := by simpa using hfar
        have hfar' : k.next ≤ 4611686018427387904 := by omega
        have e1 : Int.tmod p 65 = p % 65 := Int.tmod_eq_emod_of_nonneg hp0
        have e2 : Int.tmod q 70 = q % 70 := Int.tmod_eq_emod_of_nonneg hq0
        have e3 : Int.tmod r 10 = r % 10 := Int.tmod_eq_emod_of_nonneg hr0
        obtain ⟨N, hN⟩ : ∃ N, p % 65 = N := ⟨_, rfl⟩
        obtain ⟨x, hx⟩ : ∃ x, q % 70 = x := ⟨_, rfl⟩
        obtain ⟨z, hz⟩ : ∃ z, r % 10 = z := ⟨_, rfl⟩
        have N0 : 0 ≤ N := by omega
        have N1 : N ≤ 64 := by omega
        have x0 : 0 ≤ x := by omega
        have x1 : x < 70 := by omega
        have z0 : 0 ≤ z := by omega
        have z1 : z < 10 := by omega
        rw [hN] at e1
        rw [hx] at e2
        rw [hz] at e3
        have hroom0 := room_any (.agg #[.int .i64 k.next, .slice A n c]) k N 0 w3 ⟨A, n, c, rfl, HX.out.below HB3.out⟩
        rw [room0 hfar' N0 N1, HLEN.out] at hroom0
        obtain ⟨R0, hR0⟩ : ∃ R0, (if N - (n : Int) < 0 then 0 else N - (n : Int)) = R0 := ⟨_, rfl⟩
        rw [hR0] at hroom0
        have HR0 := hidT hR0
        clear hR0
        clear hfar
        go_wp2_with fail
        with_reducible refine hroom0.mono ?_
        rintro e w4 ⟨rfl, hb4⟩
        have Y4 := hidT (keepH Y3.out hb4)
        have HB4 := hidT (bthen HB3.out hb4)
        clear hb4 Y3 HB3 hroom0 i0 i1 hN hx hz e1 e2 e3 q1
        obtain ⟨i0, i1⟩ := cells2 Y4.out
        have hpu := push_any (.agg #[.int .i64 k.next, .slice A n c]) _ k (Keep.tok 0) N x w4 ⟨A, n, c, rfl, HX.out.below HB4.out⟩ (IsItem.tok w4) HSM.out (by simp [Keep.tok]) (by simp [Keep.tok]) r2
        have hcode := push_code (N := N) (x := x) HR.out hfar'
        have hless := room_less (k := k) (N := N) (x := x) (y := x + z) x0 (by omega)
        generalize Keep.push k (Keep.tok 0) N x = P at hpu hcode
        obtain ⟨C, hC⟩ : ∃ C, P.code = C := ⟨_, rfl⟩
        rw [hC] at hcode
        unfold PushIs at hpu
        rw [hC] at hpu
        obtain ⟨R1, hR1⟩ : ∃ R1, Keep.room k N (x + z) = R1 := ⟨_, rfl⟩
        obtain ⟨R2, hR2⟩ : ∃ R2, Keep.room k N x = R2 := ⟨_, rfl⟩
        rw [hR1, hR2] at hless
        rw [hR2] at hcode
        have q5 : decide (R1 ≤ R2) = true := by simpa using hless
        have HC := hidT hC
        have HR1 := hidT hR1
        have HR2 := hidT hR2
        have HCODE := hidT hcode
        clear hC hR1 hR2 hcode hless
        go_wp2_with fail
        with_reducible refine hpu.mono ?_
        rintro e w5 ⟨v5, u5, rfl, hK5, hI5, hb5⟩
        obtain ⟨A5, n5, c5, us5, ev5, hr5, ha5, hf5⟩ := id hK5
        clear hr5 ha5 hf5
        subst ev5
        obtain ⟨LA5, ln5, lc5, BA5, bn5, bc5, eu5, hl5, hbb5, hla5, hba5⟩ := id hI5
        clear hl5 hbb5 hla5 hba5
        subst eu5
        obtain ⟨t1, t2, t3⟩ := two_alloc w5 (.cells #[.int .i64 P.k.next, .slice A5 n5 c5] 24) (.cells #[.int .i64 P.x.k, .int .i64 P.x.q, .int .i64 P.x.e, .int .i64 P.x.i, .int .i64 P.x.t, .int .i64 P.x.c, .slice LA5 ln5 lc5, .slice BA5 bn5 bc5] 28)
        have hb6 := bthen hb5 t3
        have Y6 := hidT (keepH Y4.out hb6)
        have HB6 := hidT (bthen HB4.out hb6)
        clear t1 t2 t3 hb5 hb6 hK5 hI5 hpu i0 i1
        obtain ⟨i0, i1⟩ := cells2 Y6.out
        obtain ⟨W, hW⟩ : ∃ W, (w5.alloc (.cells #[.int .i64 P.k.next, .slice A5 n5 c5] 24)).alloc (.cells #[.int .i64 P.x.k, .int .i64 P.x.q, .int .i64 P.x.e, .int .i64 P.x.i, .int .i64 P.x.t, .int .i64 P.x.c, .slice LA5 ln5 lc5, .slice BA5 bn5 bc5] 28) = W := ⟨_, rfl⟩
        rw [hW] at Y6 HB6
        have HW := hidT hW
        clear hW
        have HRM : Hid (∀ s w', Below W.heap.size W w' → Calls Try.prog 22 #[.agg #[.int .i64 k.next, .slice A n c], .int .i64 N, .int .i64 s] w' (fun e w2 => e = .returned (.int .i64 (Keep.room k N s)) ∧ Below w'.heap.size w' w2)) := hidT fun s w' hb => room_any _ k N s w' ⟨A, n, c, rfl, HX.out.below (bthen HB6.out hb)⟩
        have k0 := fun w' (hb : Below W.heap.size W w') => (cells2 (keepH Y6.out hb)).1
        have k1 := fun w' (hb : Below W.heap.size W w') => (cells2 (keepH Y6.out hb)).2
        have HK1 : Hid (∀ w', Below W.heap.size W w' → Calls Try.prog 22 #[.agg #[.int .i64 k.next, .slice A n c], .int .i64 N, .int .i64 (x + z)] w' (fun e w2 => e = .returned (.int .i64 R1) ∧ Below w'.heap.size w' w2)) := hidT fun w' hb => by rw [← HR1.out]; exact HRM.out _ w' hb
        have HK2 : Hid (∀ w', Below W.heap.size W w' → Calls Try.prog 22 #[.agg #[.int .i64 k.next, .slice A n c], .int .i64 N, .int .i64 x] w' (fun e w2 => e = .returned (.int .i64 R2) ∧ Below w'.heap.size w' w2)) := hidT fun w' hb => by rw [← HR2.out]; exact HRM.out _ w' hb
        by_cases hlt : N - (n : Int) < 0
        · have q2 : decide (N - (n : Int) < 0) = true := by simpa using hlt
          have h0 : R0 = 0 := by rw [← HR0.out, if_pos hlt]
          subst h0
          clear hlt
          by_cases hr2 : R2 < 1
          · have hc4 : C = 4 := by rw [HCODE.out, if_pos hr2]
            have q6 : decide (0 < R2) = false := by simp; omega
            subst hc4
            clear hr2
            go_wp2_with fail
            rw [HW.out]
            clear i0 i1
            go_region_held_law (fun w' => Below W.heap.size W w')
              (first | exact (Below.refl _ _).drew | exact Below.refl _ _ | exact hb9 | exact hb8 | exact hb7)
              (first
                | (go_at_call 22
                   with_reducible refine (HK1.out _ (Below.refl _ _).drew).mono ?_
                   rintro e7 w7 ⟨rfl, hb7'⟩
                   have hb7 : Below W.heap.size W w7 := undrew hb7')
                | (go_at_call 22
                   with_reducible refine (HK2.out _ hb8).mono ?_
                   rintro e9 w9 ⟨rfl, hb9'⟩
                   have hb9 : Below W.heap.size W w9 := bthen hb8 hb9')
                | (go_at_call 22
                   with_reducible refine (HK2.out _ hb7).mono ?_
                   rintro e8 w8 ⟨rfl, hb8'⟩
                   have hb8 : Below W.heap.size W w8 := bthen hb7 hb8')
                | fail)
            go_wp2
            go_ret
            exact ⟨rfl, bthen HB6.out hb9⟩
          · have hc4 : C = 0 := by rw [HCODE.out, if_neg hr2]
            have q6 : decide (0 < R2) = true := by simp; omega
            subst hc4
            clear hr2
            go_wp2_with fail
            rw [HW.out]
            clear i0 i1
            go_region_held_law (fun w' => Below W.heap.size W w')
              (first | exact (Below.refl _ _).drew | exact Below.refl _ _ | exact hb9 | exact hb8 | exact hb7)
              (first
                | (go_at_call 22
                   with_reducible refine (HK1.out _ (Below.refl _ _).drew).mono ?_
                   rintro e7 w7 ⟨rfl, hb7'⟩
                   have hb7 : Below W.heap.size W w7 := undrew hb7')
                | (go_at_call 22
                   with_reducible refine (HK2.out _ hb8).mono ?_
                   rintro e9 w9 ⟨rfl, hb9'⟩
                   have hb9 : Below W.heap.size W w9 := bthen hb8 hb9')
                | (go_at_call 22
                   with_reducible refine (HK2.out _ hb7).mono ?_
                   rintro e8 w8 ⟨rfl, hb8'⟩
                   have hb8 : Below W.heap.size W w8 := bthen hb7 hb8')
                | fail)
            go_wp2
            go_ret
            exact ⟨rfl, bthen HB6.out hb9⟩
        · have q2 : decide (N - (n : Int) < 0) = false := by simpa using hlt
          have h0 : R0 = N - (n : Int) := by rw [← HR0.out, if_neg hlt]
          subst h0
          clear hlt
          by_cases hr2 : R2 < 1
          · have hc4 : C = 4 := by rw [HCODE.out, if_pos hr2]
            have q6 : decide (0 < R2) = false := by simp; omega
            subst hc4
            clear hr2
            go_wp2_with fail
            rw [HW.out]
            clear i0 i1
            go_region_held_law (fun w' => Below W.heap.size W w')
              (first | exact (Below.refl _ _).drew | exact Below.refl _ _ | exact hb9 | exact hb8 | exact hb7)
              (first
                | (go_at_call 22
                   with_reducible refine (HK1.out _ (Below.refl _ _).drew).mono ?_
                   rintro e7 w7 ⟨rfl, hb7'⟩
                   have hb7 : Below W.heap.size W w7 := undrew hb7')
                | (go_at_call 22
                   with_reducible refine (HK2.out _ hb8).mono ?_
                   rintro e9 w9 ⟨rfl, hb9'⟩
                   have hb9 : Below W.heap.size W w9 := bthen hb8 hb9')
                | (go_at_call 22
                   with_reducible refine (HK2.out _ hb7).mono ?_
                   rintro e8 w8 ⟨rfl, hb8'⟩
                   have hb8 : Below W.heap.size W w8 := bthen hb7 hb8')
                | fail)
            go_wp2
            go_ret
            exact ⟨rfl, bthen HB6.out hb9⟩
          · have hc4 : C = 0 := by rw [HCODE.out, if_neg hr2]
            have q6 : decide (0 < R2) = true := by simp; omega
            subst hc4
            clear hr2
            go_wp2_with fail
            rw [HW.out]
            clear i0 i1
            go_region_held_law (fun w' => Below W.heap.size W w')
              (first | exact (Below.refl _ _).drew | exact Below.refl _ _ | exact hb9 | exact hb8 | exact hb7)
              (first
                | (go_at_call 22
                   with_reducible refine (HK1.out _ (Below.refl _ _).drew).mono ?_
                   rintro e7 w7 ⟨rfl, hb7'⟩
                   have hb7 : Below W.heap.size W w7 := undrew hb7')
                | (go_at_call 22
                   with_reducible refine (HK2.out _ hb8).mono ?_
                   rintro e9 w9 ⟨rfl, hb9'⟩
                   have hb9 : Below W.heap.size W w9 := bthen hb8 hb9')
                | (go_at_call 22
                   with_reducible refine (HK2.out _ hb7).mono ?_
                   rintro e8 w8 ⟨rfl, hb8'⟩
                   have hb8 : Below W.heap.size W w8 := bthen hb7 hb8')
                | fail)
            go_wp2
            go_ret
            exact ⟨rfl, bthen HB6.out hb9⟩
end Go.Proofs.Ytgnaecifinlnmaa
