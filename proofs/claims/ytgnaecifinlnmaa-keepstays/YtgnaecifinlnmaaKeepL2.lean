/- The law KeepStays, walked. -/
import Derived.Test.YtgnaecifinlnmaaKeepL4
import Derived.Test.YtgnaecifinlnmaaKeep10
set_option maxRecDepth 100000
namespace Go.Proofs.Ytgnaecifinlnmaa
open Go.RowKit
set_option linter.unusedVariables false

theorem got_its {k : Keep.Kp} (h : Keep.right k = true) {j : Nat} {x : Item.It} (hx : k.l[j]? = some x) : Keep.got k.l x.q = some x := by
  have hn := (Keep.right_iff.1 h).2.2
  have := Keep.got_at hn hx
  rw [← Keep.numb_get hn hx] at this
  exact this
/-- What the statement that asks for an item leaves. -/
def Asked (W : World) (t : Bool) (y : Item.It) (s15 s16 : Value) (w' : World) : Prop := ∃ p LA ln lc BA bn bc, s15 = .pointer (some ⟨p, 0, none⟩) ∧ s16 = .bool t ∧ w'.heap[p]? = some (.cells #[.int .i64 y.k, .int .i64 y.q, .int .i64 y.e, .int .i64 y.i, .int .i64 y.t, .int .i64 y.c, .slice LA ln lc, .slice BA bn bc] 28 (0, 0)) ∧ IsItem w' (.agg #[.int .i64 y.k, .int .i64 y.q, .int .i64 y.e, .int .i64 y.i, .int .i64 y.t, .int .i64 y.c, .slice LA ln lc, .slice BA bn bc]) y ∧ Below W.heap.size W w'
set_option maxHeartbeats 8000000 in
theorem kstays_any (A : Option Addr) (n c : Nat) (k : Keep.Kp) (LA : Option Addr) (ln lc : Nat) (BA : Option Addr) (bn bc : Nat) (x : Item.It) (buf spare upto : Int) (w : World) (hX : RdX w A n c k.l) (hl : RdI w LA ln lc x.l) (hb : Rd w BA bn bc x.b) :
    Calls Try.prog 4 #[.agg #[.int .i64 k.next, .slice A n c, .int .i64 x.k, .int .i64 x.q, .int .i64 x.e, .int .i64 x.i, .int .i64 x.t, .int .i64 x.c, .slice LA ln lc, .slice BA bn bc, .int .i64 buf, .int .i64 spare, .int .i64 upto]] w (Yes w) := by
  have hn := hX.le
  have hlen := hX.size
  have hit : IsItem w (.agg #[.int .i64 x.k, .int .i64 x.q, .int .i64 x.e, .int .i64 x.i, .int .i64 x.t, .int .i64 x.c, .slice LA ln lc, .slice BA bn bc]) x := ⟨LA, ln, lc, BA, bn, bc, rfl, hl, hb⟩
  obtain ⟨y0, y1, y2, hb0⟩ := three_alloc w (.cells #[.int .i64 k.next, .slice A n c, .int .i64 x.k, .int .i64 x.q, .int .i64 x.e, .int .i64 x.i, .int .i64 x.t, .int .i64 x.c, .slice LA ln lc, .slice BA bn bc, .int .i64 buf, .int .i64 spare, .int .i64 upto] 49) (.cells #[.int .i64 k.next, .slice A n c] 24) (.cells #[.int .i64 x.k, .int .i64 x.q, .int .i64 x.e, .int .i64 x.i, .int .i64 x.t, .int .i64 x.c, .slice LA ln lc, .slice BA bn bc] 28)
  have o10 := cell_at y0 10 (u := .int .i64 buf) rfl
  have o11 := cell_at y0 11 (u := .int .i64 spare) rfl
  have o12 := cell_at y0 12 (u := .int .i64 upto) rfl
  obtain ⟨g, hg⟩ : ∃ g, w.heap.size = g := ⟨_, rfl⟩
  rw [hg] at y1 y2 o10 o11 o12
  have Y0 := hidT y1
  have Z0 := hidT y2
  have HB0 := hidT hb0
  have HX := hidT hX
  have HIT := hidT hit
  have HLEN := hidT hlen
  clear y0 y1 y2 hb0 hX hit hlen hl hb
  go_enter Try.func4, Try.ntmps4
  go_wp2_with fail
  with_reducible refine (kshown_any _).mono ?_
  rintro e w1 ⟨rfl, hb1⟩
  have Y1 := hidT (keepH Y0.out hb1)
  have Z1 := hidT (keepH Z0.out hb1)
  have HB1 := hidT (bthen HB0.out hb1)
  clear hb1 Y0 Z0 HB0 hg o10 o11 o12
  obtain ⟨i0, i1⟩ := cells2 Y1.out
  have hf := fewK_is A n c k.l w1 (HX.out.below HB1.out)
  go_wp2_with fail
  cases hfew : fewK k.l with
  | false =>
    rw [hfew] at hf
    with_reducible refine hf.mono ?_
    rintro e w2 ⟨rfl, hb2⟩
    go_wp2
    go_ret
    exact ⟨rfl, bthen HB1.out hb2⟩
  | true =>
    rw [hfew] at hf
    have HSM := hidT (fewK_small hfew)
    clear hfew
    with_reducible refine hf.mono ?_
    rintro e w2 ⟨rfl, hb2⟩
    have Y2 := hidT (keepH Y1.out hb2)
    have Z2 := hidT (keepH Z1.out hb2)
    have HB2 := hidT (bthen HB1.out hb2)
    clear hb2 Y1 Z1 HB1 hf i0 i1
    obtain ⟨j0, j1, j2, j3, j4, j5, j6, j7⟩ := cells8 Z2.out
    have hfx : Calls Try.prog 11 #[.agg #[.int .i64 x.k, .int .i64 x.q, .int .i64 x.e, .int .i64 x.i, .int .i64 x.t, .int .i64 x.c, .slice LA ln lc, .slice BA bn bc]] w2 (BoolIs w2 (fewI x)) := few_is _ x w2 (HIT.out.below HB2.out)
    go_wp2_with fail
    cases hfi : fewI x with
    | false =>
      rw [hfi] at hfx
      with_reducible refine hfx.mono ?_
      rintro e w3 ⟨rfl, hb3⟩
      go_wp2
      go_ret
      exact ⟨rfl, bthen HB2.out hb3⟩
    | true =>
      rw [hfi] at hfx
      have hsx : x.l.length ≤ 80 ∧ x.b.length ≤ 1100 := by simpa [fewI] using hfi
      have HSX := hidT hsx
      clear hfi hsx
      with_reducible refine hfx.mono ?_
      rintro e w3 ⟨rfl, hb3⟩
      have Y3 := hidT (keepH Y2.out hb3)
      have Z3 := hidT (keepH Z2.out hb3)
      have HB3 := hidT (bthen HB2.out hb3)
      clear hb3 Y2 Z2 HB2 hfx j0 j1 j2 j3 j4 j5 j6 j7
      obtain ⟨i0, i1⟩ := cells2 Y3.out
      have hr := rright_any (.agg #[.int .i64 k.next, .slice A n c]) k w3 ⟨A, n, c, rfl, HX.out.below HB3.out⟩
      go_wp2_with fail
      cases hri : Keep.right k with
      | false =>
        rw [hri] at hr
        with_reducible refine hr.mono ?_
        rintro e w4 ⟨rfl, hb4⟩
        go_wp2
        go_ret
        exact ⟨rfl, bthen HB3.out hb4⟩
      | true =>
        rw [hri] at hr
        have HR := hidT hri
        clear hri
        with_reducible refine hr.mono ?_
        rintro e w4 ⟨rfl, hb4⟩
        have Y4 := hidT (keepH Y3.out hb4)
        have Z4 := hidT (keepH Z3.out hb4)
        have HB4 := hidT (bthen HB3.out hb4)
        clear hb4 Y3 Z3 HB3 hr i0 i1
        obtain ⟨i0, i1⟩ := cells2 Y4.out
        obtain ⟨⟨r1, r2, r3⟩, _, _⟩ := Keep.right_iff.1 HR.out
        rw [HLEN.out] at r1
        have hroom := room_any (.agg #[.int .i64 k.next, .slice A n c]) k buf spare w4 ⟨A, n, c, rfl, HX.out.below HB4.out⟩
        obtain ⟨R, hR⟩ : ∃ R, Keep.room k buf spare = R := ⟨_, rfl⟩
        rw [hR] at hroom
        have hrr := Keep.room_range k buf spare
        rw [hR] at hrr
        obtain ⟨R0, R64⟩ := hrr
        have HRO := hidT hR
        clear hR
        go_wp2_with fail
        with_reducible refine hroom.mono ?_
        rintro e w5 ⟨rfl, hb5⟩
        have Y5 := hidT (keepH Y4.out hb5)
        have Z5 := hidT (keepH Z4.out hb5)
        have HB5 := hidT (bthen HB4.out hb5)
        clear hb5 Y4 Z4 HB4 hroom i0 i1
        obtain ⟨i0, i1⟩ := cells2 Y5.out
        obtain ⟨j0, j1, j2, j3, j4, j5, j6, j7⟩ := cells8 Z5.out
        have hpu := push_any (.agg #[.int .i64 k.next, .slice A n c]) (.agg #[.int .i64 x.k, .int .i64 x.q, .int .i64 x.e, .int .i64 x.i, .int .i64 x.t, .int .i64 x.c, .slice LA ln lc, .slice BA bn bc]) k x buf spare w5 ⟨A, n, c, rfl, HX.out.below HB5.out⟩ (HIT.out.below HB5.out) HSM.out (by have := HSX.out; omega) (by have := HSX.out; omega) r2
        have hpc := Keep.push_cases k x buf spare
        rw [HRO.out] at hpc
        have hrp := Keep.right_push x buf spare HR.out
        obtain ⟨P, hP⟩ : ∃ P, Keep.push k x buf spare = P := ⟨_, rfl⟩
        rw [hP] at hpu hpc hrp
        have HPC := hidT hpc
        have HRP := hidT hrp
        clear hP hpc hrp
        unfold PushIs at hpu
        obtain ⟨D, hD⟩ : ∃ D, P.code = D := ⟨_, rfl⟩
        rw [hD] at hpu
        have HD := hidT hD
        clear hD
        go_wp2_with fail
        with_reducible refine hpu.mono ?_
        rintro e w6 ⟨v6, u6, rfl, hK6, hI6, hb6⟩
        obtain ⟨A6, n6, c6, us6, ev6, hr6, ha6, hf6⟩ := id hK6
        have hn6 : n6 = P.k.l.length := by rw [← hf6.1]; exact hr6.size.symm
        have HN6 := hidT hn6
        clear hr6 ha6 hf6 hn6
        subst ev6
        obtain ⟨LA6, ln6, lc6, BA6, bn6, bc6, eu6, hl6, hbb6, hla6, hba6⟩ := id hI6
        clear hl6 hbb6 hla6 hba6
        subst eu6
        obtain ⟨t1, t2, t3⟩ := two_alloc w6 (.cells #[.int .i64 P.k.next, .slice A6 n6 c6] 24) (.cells #[.int .i64 P.x.k, .int .i64 P.x.q, .int .i64 P.x.e, .int .i64 P.x.i, .int .i64 P.x.t, .int .i64 P.x.c, .slice LA6 ln6 lc6, .slice BA6 bn6 bc6] 28)
        obtain ⟨pa, hpa⟩ : ∃ p, w6.heap.size = p := ⟨_, rfl⟩
        rw [hpa] at t1 t2
        have hb7 := bthen hb6 t3
        have Y7 := hidT (keepH Y5.out hb7)
        have HB7 := hidT (bthen HB5.out hb7)
        have KA := hidT (hK6.is.below t3)
        have IX := hidT (hI6.is.below t3)
        have YA := hidT t1
        have YX := hidT t2
        clear t1 t2 t3 hb6 hb7 hK6 hI6 hpu i0 i1 j0 j1 j2 j3 j4 j5 j6 j7 Y5 Z5 HB5
        obtain ⟨i0, i1⟩ := cells2 Y7.out
        obtain ⟨W7, hW7⟩ : ∃ W, (w6.alloc (.cells #[.int .i64 P.k.next, .slice A6 n6 c6] 24)).alloc (.cells #[.int .i64 P.x.k, .int .i64 P.x.q, .int .i64 P.x.e, .int .i64 P.x.i, .int .i64 P.x.t, .int .i64 P.x.c, .slice LA6 ln6 lc6, .slice BA6 bn6 bc6] 28) = W := ⟨_, rfl⟩
        rw [hW7] at Y7 HB7 KA IX YA YX
        have HW7 := hidT hW7
        clear hW7
        have hfr := free_right (.agg #[.int .i64 k.next, .slice A n c]) k upto W7 ⟨A, n, c, rfl, HX.out.below HB7.out⟩ HSM.out HR.out
        go_wp2_with fail
        rw [HW7.out]
        clear hpa
        with_reducible refine hfr.mono ?_
        rintro e w8 ⟨v8, rfl, hK8, hb8⟩
        obtain ⟨A8, n8, c8, us8, ev8, hr8, ha8, hf8⟩ := id hK8
        have ev8' : v8 = .agg #[.int .i64 k.next, .slice A8 n8 c8] := ev8
        clear ev8 hr8 ha8 hf8
        subst ev8'
        have t1 := alloc_at w8 (.cells #[.int .i64 k.next, .slice A8 n8 c8] 24) _ rfl
        have t3 := nkeep w8 (.cells #[.int .i64 k.next, .slice A8 n8 c8] 24)
        obtain ⟨pb, hpb⟩ : ∃ p, w8.heap.size = p := ⟨_, rfl⟩
        rw [hpb] at t1
        have hb9 := bthen hb8 t3
        have Y9 := hidT (keepH Y7.out hb9)
        have HB9 := hidT (bthen HB7.out hb9)
        have KA := hidT (KA.out.below hb9)
        have KB := hidT (hK8.is.below t3)
        have IX := hidT (IX.out.below hb9)
        have YA := hidT (keepH YA.out hb9)
        have YX := hidT (keepH YX.out hb9)
        have YB := hidT t1
        clear t1 t3 hb8 hb9 hK8 hfr i0 i1 Y7 HB7
        obtain ⟨i0, i1⟩ := cells2 Y9.out
        obtain ⟨a0, a1⟩ := cells2 YA.out
        obtain ⟨b0, b1⟩ := cells2 YB.out
        obtain ⟨W9, hW9⟩ : ∃ W, w8.alloc (.cells #[.int .i64 k.next, .slice A8 n8 c8] 24) = W := ⟨_, rfl⟩
        rw [hW9] at Y9 HB9 KA KB IX YA YX YB
        have HW9 := hidT hW9
        clear hW9
        have hra := rright_any _ P.k W9 KA.out
        rw [HRP.out] at hra
        have qn : (k.next != k.next) = false := by simp
        have q0 : decide (R < 0) = false := decide_eq_false (by omega)
        have q64 : decide (64 < R) = false := decide_eq_false (by omega)
        go_wp2_with fail
        rw [HW9.out]
        clear hpb i0 i1 a0 a1 b0 b1
        with_reducible refine hra.mono ?_
        rintro e w10 ⟨rfl, hb10⟩
        have Y10 := hidT (keepH Y9.out hb10)
        have HB10 := hidT (bthen HB9.out hb10)
        have KA := hidT (KA.out.below hb10)
        have KB := hidT (KB.out.below hb10)
        have IX := hidT (IX.out.below hb10)
        have YA := hidT (keepH YA.out hb10)
        have YX := hidT (keepH YX.out hb10)
        have YB := hidT (keepH YB.out hb10)
        clear hb10 hra Y9 HB9
        obtain ⟨b0, b1⟩ := cells2 YB.out
        have hrb := rright_any _ ⟨k.next, Keep.freed k.l upto⟩ w10 KB.out
        rw [Keep.right_freed HR.out upto] at hrb
        go_wp2_with fail
        with_reducible refine hrb.mono ?_
        rintro e w11 ⟨rfl, hb11⟩
        have Y11 := hidT (keepH Y10.out hb11)
        have HB11 := hidT (bthen HB10.out hb11)
        have KA := hidT (KA.out.below hb11)
        have KB := hidT (KB.out.below hb11)
        have IX := hidT (IX.out.below hb11)
        have YA := hidT (keepH YA.out hb11)
        have YX := hidT (keepH YX.out hb11)
        have YB := hidT (keepH YB.out hb11)
        clear hb11 hrb Y10 HB10 b0 b1
        obtain ⟨i0, i1⟩ := cells2 Y11.out
        obtain ⟨a0, a1⟩ := cells2 YA.out
        obtain ⟨b0, b1⟩ := cells2 YB.out
        rcases HPC.out with ⟨hPe, hm⟩ | ⟨hPe, hrn⟩ | ⟨hPe, hm, hrn⟩
        · have hd : D = 1 := by rw [← HD.out, hPe]
          subst hd
          have HPE := hidT hPe
          clear hPe
          clear HPC
          have hsa := rksame_is _ (.agg #[.int .i64 k.next, .slice A n c]) P.k k w11 KA.out ⟨A, n, c, rfl, HX.out.below HB11.out⟩ true (by rw [HPE.out]; simp)
          go_wp2_with fail
          with_reducible refine hsa.mono ?_
          rintro e w12 ⟨rfl, hb12⟩
          have Y12 := hidT (keepH Y11.out hb12)
          have HB12 := hidT (bthen HB11.out hb12)
          have KB := hidT (KB.out.below hb12)
          have YB := hidT (keepH YB.out hb12)
          clear hb12 hsa i0 i1 a0 a1 b0 b1 Y11 HB11 qn q0 q64
          go_wp2_with fail
          go_loopw [14] (fun i wr => ∃ j : Nat, j ≤ n ∧ i = .int .i64 j ∧ Hid (Below w12.heap.size w12 wr)) (fun i _ => n - (intOf i).toNat)
          case atStart => exact ⟨0, Nat.zero_le _, rfl, hidT (Below.refl _ _)⟩
          case round =>
            obtain ⟨j, hj, rfl, HL⟩ := hrel
            have Yr := hidT (keepH Y12.out HL.out)
            have HBr := hidT (bthen HB12.out HL.out)
            have KBr := hidT (KB.out.below HL.out)
            have YBr := hidT (keepH YB.out HL.out)
            obtain ⟨i0, i1⟩ := cells2 Yr.out
            by_cases hjn : j < n
            · obtain ⟨b, o, y, LAy, lny, lcy, BAy, bny, bcy, rfl, hy, hiy, hcs⟩ := HX.out.told hjn
              have hgot : Keep.got (Keep.freed k.l upto) y.q = if upto < y.q then some y else none := by rw [Keep.got_freed, got_its HR.out hy]
              have HGET : Hid (∀ w', Below wr.heap.size wr w' → Calls Try.prog 20 #[.agg #[.int .i64 k.next, .slice A8 n8 c8], .int .i64 y.q] w' (GetFr w' (Keep.got (Keep.freed k.l upto) y.q))) := hidT fun w' hb => getf_any _ ⟨k.next, Keep.freed k.l upto⟩ y.q w' (KBr.out.below hb) (small_freed HSM.out upto)
              have HIY := hidT hiy
              have HCS := hidT hcs
              have x1 : (0 : Int) ≤ (j : Int) := by omega
              have x2 : (j : Int) < (n : Int) := by omega
              have kb : ∀ w', Below wr.heap.size wr w' → Below w.heap.size w w' := fun w' hb => bthen HBr.out hb
              have ky0 := fun w' (hb : Below wr.heap.size wr w') => (HCS.out w' (kb w' hb)).1
              have ky1 := fun w' (hb : Below wr.heap.size wr w') => (HCS.out w' (kb w' hb)).2.1
              have ky2 := fun w' (hb : Below wr.heap.size wr w') => (HCS.out w' (kb w' hb)).2.2.1
              have ky3 := fun w' (hb : Below wr.heap.size wr w') => (HCS.out w' (kb w' hb)).2.2.2.1
              have ky4 := fun w' (hb : Below wr.heap.size wr w') => (HCS.out w' (kb w' hb)).2.2.2.2.1
              have ky5 := fun w' (hb : Below wr.heap.size wr w') => (HCS.out w' (kb w' hb)).2.2.2.2.2.1
              have ky6 := fun w' (hb : Below wr.heap.size wr w') => (HCS.out w' (kb w' hb)).2.2.2.2.2.2.1
              have ky7 := fun w' (hb : Below wr.heap.size wr w') => (HCS.out w' (kb w' hb)).2.2.2.2.2.2.2
              have k0 := fun w' (hb : Below wr.heap.size wr w') => (cells2 (keepH Yr.out hb)).1
              have k1 := fun w' (hb : Below wr.heap.size wr w') => (cells2 (keepH Yr.out hb)).2
              have m0 := fun w' (hb : Below wr.heap.size wr w') => (cells2 (keepH YBr.out hb)).1
              have m1 := fun w' (hb : Below wr.heap.size wr w') => (cells2 (keepH YBr.out hb)).2
              have HKB := hidT kb
              clear hiy hcs kb
              by_cases hup : upto < y.q
              · rw [if_pos hup] at hgot
                rw [hgot] at HGET
                have qu : decide (upto < y.q) = true := decide_eq_true hup
                clear hgot hup
                go_wp2_with fail
                clear i0 i1
                have D1 : Below wr.heap.size wr (wr.alloc (.cells zcells 28)) := nkeep wr _
                go_region_held_law (fun w' => Below wr.heap.size wr w')
                  (first | exact (Below.refl _ _).drew | exact Below.refl _ _ | exact hb3 | exact hb5 | exact D1.drew | exact D1 | exact nkeep_alloc hb5 _)
                  (first
                    | (go_at_call 20
                       with_reducible refine (HGET.out _ (Below.refl _ _).drew).mono ?_
                       rintro e5 w5 ⟨v5, rfl, hI5, hb5'⟩
                       have hb5 : Below wr.heap.size wr w5 := undrew hb5'
                       obtain ⟨LA5, ln5, lc5, BA5, bn5, bc5, ev5, hl5, hbb5, hla5, hba5⟩ := id hI5
                       have ev5' : v5 = .agg #[.int .i64 y.k, .int .i64 y.q, .int .i64 y.e, .int .i64 y.i, .int .i64 y.t, .int .i64 y.c, .slice LA5 ln5 lc5, .slice BA5 bn5 bc5] := ev5
                       clear ev5 hl5 hbb5 hla5 hba5
                       subst ev5'
                       have TA : True := trivial)
                    | (go_at_call 20
                       with_reducible refine (HGET.out _ D1.drew).mono ?_
                       rintro e5 w5 ⟨v5, rfl, hI5, hb5'⟩
                       have hb5 : Below wr.heap.size wr w5 := bthen D1 (undrew hb5')
                       have hx3 := keepH (alloc_at wr (.cells zcells 28) _ rfl) (undrew hb5')
                       obtain ⟨r3, rfl, hs3, hall3⟩ := hI5.cells
                       obtain ⟨w3, hrun3, G3, BB3, BL3⟩ := st8 hx3 r3 hs3.symm hall3
                       have hb3 : Below wr.heap.size wr w3 := BL3.out _ _ hb5 (Nat.le_refl _)
                       have TB : True := trivial)
                    | fail)
                · have P5 := hidT (alloc_at w5 (.cells #[.int .i64 y.k, .int .i64 y.q, .int .i64 y.e, .int .i64 y.i, .int .i64 y.t, .int .i64 y.c, .slice LA5 ln5 lc5, .slice BA5 bn5 bc5] 28) _ rfl)
                  have I5 := hidT (hI5.is.below (nkeep w5 (.cells #[.int .i64 y.k, .int .i64 y.q, .int .i64 y.e, .int .i64 y.i, .int .i64 y.t, .int .i64 y.c, .slice LA5 ln5 lc5, .slice BA5 bn5 bc5] 28)))
                  have B5 := hidT (nkeep_alloc hb5 (.cells #[.int .i64 y.k, .int .i64 y.q, .int .i64 y.e, .int .i64 y.i, .int .i64 y.t, .int .i64 y.c, .slice LA5 ln5 lc5, .slice BA5 bn5 bc5] 28))
                  obtain ⟨p, hp⟩ : ∃ p, w5.heap.size = p := ⟨_, rfl⟩
                  rw [hp] at P5 ⊢
                  clear TA hI5 hb5 hb5' hp D1
                  generalize w5.alloc (.cells #[.int .i64 y.k, .int .i64 y.q, .int .i64 y.e, .int .i64 y.i, .int .i64 y.t, .int .i64 y.c, .slice LA5 ln5 lc5, .slice BA5 bn5 bc5] 28) = W5 at *
                  have HSAME : Hid (∀ w', Below W5.heap.size W5 w' → Calls Try.prog 24 #[.agg #[.int .i64 y.k, .int .i64 y.q, .int .i64 y.e, .int .i64 y.i, .int .i64 y.t, .int .i64 y.c, .slice LA5 ln5 lc5, .slice BA5 bn5 bc5], .agg #[.int .i64 y.k, .int .i64 y.q, .int .i64 y.e, .int .i64 y.i, .int .i64 y.t, .int .i64 y.c, .slice LAy lny lcy, .slice BAy bny bcy]] w' (BoolIs w' true)) := hidT fun w' hb => rsameI_is _ _ y y w' (I5.out.below hb) (HIY.out.below (HKB.out w' (bthen B5.out hb))) true (by simp)
                  have D5 : ∀ w', Below W5.heap.size W5 w' → Below wr.heap.size wr w' := fun w' hb => bthen B5.out hb
                  have kz0 := fun w' (hb : Below W5.heap.size W5 w') => (cells8 (keepH P5.out hb)).1
                  have kz1 := fun w' (hb : Below W5.heap.size W5 w') => (cells8 (keepH P5.out hb)).2.1
                  have kz2 := fun w' (hb : Below W5.heap.size W5 w') => (cells8 (keepH P5.out hb)).2.2.1
                  have kz3 := fun w' (hb : Below W5.heap.size W5 w') => (cells8 (keepH P5.out hb)).2.2.2.1
                  have kz4 := fun w' (hb : Below W5.heap.size W5 w') => (cells8 (keepH P5.out hb)).2.2.2.2.1
                  have kz5 := fun w' (hb : Below W5.heap.size W5 w') => (cells8 (keepH P5.out hb)).2.2.2.2.2.1
                  have kz6 := fun w' (hb : Below W5.heap.size W5 w') => (cells8 (keepH P5.out hb)).2.2.2.2.2.2.1
                  have kz7 := fun w' (hb : Below W5.heap.size W5 w') => (cells8 (keepH P5.out hb)).2.2.2.2.2.2.2
                  have kt0 := fun w' (hb : Below W5.heap.size W5 w') => ky0 w' (D5 w' hb)
                  have kt1 := fun w' (hb : Below W5.heap.size W5 w') => ky1 w' (D5 w' hb)
                  have kt2 := fun w' (hb : Below W5.heap.size W5 w') => ky2 w' (D5 w' hb)
                  have kt3 := fun w' (hb : Below W5.heap.size W5 w') => ky3 w' (D5 w' hb)
                  have kt4 := fun w' (hb : Below W5.heap.size W5 w') => ky4 w' (D5 w' hb)
                  have kt5 := fun w' (hb : Below W5.heap.size W5 w') => ky5 w' (D5 w' hb)
                  have kt6 := fun w' (hb : Below W5.heap.size W5 w') => ky6 w' (D5 w' hb)
                  have kt7 := fun w' (hb : Below W5.heap.size W5 w') => ky7 w' (D5 w' hb)
                  have n0 := fun w' (hb : Below W5.heap.size W5 w') => k0 w' (D5 w' hb)
                  have n1 := fun w' (hb : Below W5.heap.size W5 w') => k1 w' (D5 w' hb)
                  clear ky0 ky1 ky2 ky3 ky4 ky5 ky6 ky7 k0 k1 m0 m1 D5
                  go_wp2_with fail
                  go_region_held_law (fun w' => Below W5.heap.size W5 w')
                    (first | exact (Below.refl _ _).drew | exact Below.refl _ _ | exact hb6)
                    (first
                      | (go_at_call 24
                         with_reducible refine (HSAME.out _ (Below.refl _ _).drew).mono ?_
                         rintro e6 w6 ⟨rfl, hb6'⟩
                         have hb6 : Below W5.heap.size W5 w6 := undrew hb6')
                      | fail)
                  go_wp2
                  exact ⟨⟨j + 1, by omega, by go_num, hidT (bthen HL.out (bthen B5.out hb6))⟩, by simp [intOf]; omega⟩
                · obtain ⟨LA5, ln5, lc5, BA5, bn5, bc5, ev5, hl5, hbb5, hla5, hba5⟩ := id hI5
                  injection ev5 with ev5
                  have ev5' : r3 = #[.int .i64 y.k, .int .i64 y.q, .int .i64 y.e, .int .i64 y.i, .int .i64 y.t, .int .i64 y.c, .slice LA5 ln5 lc5, .slice BA5 bn5 bc5] := ev5
                  clear ev5 hl5 hbb5 hla5 hba5
                  subst ev5'
                  have P5 := G3
                  have I5 := hidT ((hI5.but (by show wr.heap.size < (wr.alloc (.cells zcells 28)).heap.size; rw [size_alloc]; omega) BB3.out).is)
                  have B5 := hidT hb3
                  obtain ⟨p, hp⟩ : ∃ p, wr.heap.size = p := ⟨_, rfl⟩
                  clear TB hI5 hb5 hb5' hx3 hrun3 G3 BB3 BL3 hb3 D1 hs3 hall3
                  rw [hp] at P5 ⊢
                  clear hp
                  obtain ⟨W5, hW5⟩ : ∃ W5, W5 = w3 := ⟨_, rfl⟩
                  subst hW5
                  have HSAME : Hid (∀ w', Below W5.heap.size W5 w' → Calls Try.prog 24 #[.agg #[.int .i64 y.k, .int .i64 y.q, .int .i64 y.e, .int .i64 y.i, .int .i64 y.t, .int .i64 y.c, .slice LA5 ln5 lc5, .slice BA5 bn5 bc5], .agg #[.int .i64 y.k, .int .i64 y.q, .int .i64 y.e, .int .i64 y.i, .int .i64 y.t, .int .i64 y.c, .slice LAy lny lcy, .slice BAy bny bcy]] w' (BoolIs w' true)) := hidT fun w' hb => rsameI_is _ _ y y w' (I5.out.below hb) (HIY.out.below (HKB.out w' (bthen B5.out hb))) true (by simp)
                  have D5 : ∀ w', Below W5.heap.size W5 w' → Below wr.heap.size wr w' := fun w' hb => bthen B5.out hb
                  have kz0 := fun w' (hb : Below W5.heap.size W5 w') => (cells8 (keepH P5.out hb)).1
                  have kz1 := fun w' (hb : Below W5.heap.size W5 w') => (cells8 (keepH P5.out hb)).2.1
                  have kz2 := fun w' (hb : Below W5.heap.size W5 w') => (cells8 (keepH P5.out hb)).2.2.1
                  have kz3 := fun w' (hb : Below W5.heap.size W5 w') => (cells8 (keepH P5.out hb)).2.2.2.1
                  have kz4 := fun w' (hb : Below W5.heap.size W5 w') => (cells8 (keepH P5.out hb)).2.2.2.2.1
                  have kz5 := fun w' (hb : Below W5.heap.size W5 w') => (cells8 (keepH P5.out hb)).2.2.2.2.2.1
                  have kz6 := fun w' (hb : Below W5.heap.size W5 w') => (cells8 (keepH P5.out hb)).2.2.2.2.2.2.1
                  have kz7 := fun w' (hb : Below W5.heap.size W5 w') => (cells8 (keepH P5.out hb)).2.2.2.2.2.2.2
                  have kt0 := fun w' (hb : Below W5.heap.size W5 w') => ky0 w' (D5 w' hb)
                  have kt1 := fun w' (hb : Below W5.heap.size W5 w') => ky1 w' (D5 w' hb)
                  have kt2 := fun w' (hb : Below W5.heap.size W5 w') => ky2 w' (D5 w' hb)
                  have kt3 := fun w' (hb : Below W5.heap.size W5 w') => ky3 w' (D5 w' hb)
                  have kt4 := fun w' (hb : Below W5.heap.size W5 w') => ky4 w' (D5 w' hb)
                  have kt5 := fun w' (hb : Below W5.heap.size W5 w') => ky5 w' (D5 w' hb)
                  have kt6 := fun w' (hb : Below W5.heap.size W5 w') => ky6 w' (D5 w' hb)
                  have kt7 := fun w' (hb : Below W5.heap.size W5 w') => ky7 w' (D5 w' hb)
                  have n0 := fun w' (hb : Below W5.heap.size W5 w') => k0 w' (D5 w' hb)
                  have n1 := fun w' (hb : Below W5.heap.size W5 w') => k1 w' (D5 w' hb)
                  clear ky0 ky1 ky2 ky3 ky4 ky5 ky6 ky7 k0 k1 m0 m1 D5
                  go_wp2_with fail
                  go_region_held_law (fun w' => Below W5.heap.size W5 w')
                    (first | exact (Below.refl _ _).drew | exact Below.refl _ _ | exact hb6)
                    (first
                      | (go_at_call 24
                         with_reducible refine (HSAME.out _ (Below.refl _ _).drew).mono ?_
                         rintro e6 w6 ⟨rfl, hb6'⟩
                         have hb6 : Below W5.heap.size W5 w6 := undrew hb6')
                      | fail)
                  go_wp2
                  exact ⟨⟨j + 1, by omega, by go_num, hidT (bthen HL.out (bthen B5.out hb6))⟩, by simp [intOf]; omega⟩
              · rw [if_neg hup] at hgot
                rw [hgot] at HGET
                have qu : decide (upto < y.q) = false := decide_eq_false hup
                clear hgot hup
                go_wp2_with fail
                clear i0 i1
                have D1 : Below wr.heap.size wr (wr.alloc (.cells zcells 28)) := nkeep wr _
                go_region_held_law (fun w' => Below wr.heap.size wr w')
                  (first | exact (Below.refl _ _).drew | exact Below.refl _ _ | exact hb3 | exact hb5 | exact D1.drew | exact D1 | exact nkeep_alloc hb5 _)
                  (first
                    | (go_at_call 20
                       with_reducible refine (HGET.out _ (Below.refl _ _).drew).mono ?_
                       rintro e5 w5 ⟨v5, rfl, hI5, hb5'⟩
                       have hb5 : Below wr.heap.size wr w5 := undrew hb5'
                       obtain ⟨LA5, ln5, lc5, BA5, bn5, bc5, ev5, hl5, hbb5, hla5, hba5⟩ := id hI5
                       have ev5' : v5 = .agg #[.int .i64 0, .int .i64 0, .int .i64 0, .int .i64 0, .int .i64 0, .int .i64 0, .slice LA5 ln5 lc5, .slice BA5 bn5 bc5] := ev5
                       clear ev5 hl5 hbb5 hla5 hba5
                       subst ev5'
                       have TA : True := trivial)
                    | (go_at_call 20
                       with_reducible refine (HGET.out _ D1.drew).mono ?_
                       rintro e5 w5 ⟨v5, rfl, hI5, hb5'⟩
                       have hb5 : Below wr.heap.size wr w5 := bthen D1 (undrew hb5')
                       have hx3 := keepH (alloc_at wr (.cells zcells 28) _ rfl) (undrew hb5')
                       obtain ⟨r3, rfl, hs3, hall3⟩ := hI5.cells
                       obtain ⟨w3, hrun3, G3, BB3, BL3⟩ := st8 hx3 r3 hs3.symm hall3
                       have hb3 : Below wr.heap.size wr w3 := BL3.out _ _ hb5 (Nat.le_refl _)
                       have TB : True := trivial)
                    | fail)
                · have P5 := hidT (alloc_at w5 (.cells #[.int .i64 0, .int .i64 0, .int .i64 0, .int .i64 0, .int .i64 0, .int .i64 0, .slice LA5 ln5 lc5, .slice BA5 bn5 bc5] 28) _ rfl)
                  have I5 := hidT (hI5.is.below (nkeep w5 (.cells #[.int .i64 0, .int .i64 0, .int .i64 0, .int .i64 0, .int .i64 0, .int .i64 0, .slice LA5 ln5 lc5, .slice BA5 bn5 bc5] 28)))
                  have B5 := hidT (nkeep_alloc hb5 (.cells #[.int .i64 0, .int .i64 0, .int .i64 0, .int .i64 0, .int .i64 0, .int .i64 0, .slice LA5 ln5 lc5, .slice BA5 bn5 bc5] 28))
                  obtain ⟨p, hp⟩ : ∃ p, w5.heap.size = p := ⟨_, rfl⟩
                  rw [hp] at P5 ⊢
                  clear TA hI5 hb5 hb5' hp D1
                  generalize w5.alloc (.cells #[.int .i64 0, .int .i64 0, .int .i64 0, .int .i64 0, .int .i64 0, .int .i64 0, .slice LA5 ln5 lc5, .slice BA5 bn5 bc5] 28) = W5 at *
                  have D5 : ∀ w', Below W5.heap.size W5 w' → Below wr.heap.size wr w' := fun w' hb => bthen B5.out hb
                  have E0 := D5 W5 (Below.refl _ _)
                  have n0 := k0 W5 E0
                  have n1 := k1 W5 E0
                  have n2 := ky1 W5 E0
                  clear ky0 ky1 ky2 ky3 ky4 ky5 ky6 ky7 k0 k1 m0 m1 D5 E0
                  go_wp2_with fail
                  go_quiet (fail)
                  go_wp2
                  exact ⟨⟨j + 1, by omega, by go_num, hidT (bthen HL.out (bthen B5.out (drawn_below _ _)))⟩, by simp [intOf]; omega⟩
                · obtain ⟨LA5, ln5, lc5, BA5, bn5, bc5, ev5, hl5, hbb5, hla5, hba5⟩ := id hI5
                  injection ev5 with ev5
                  have ev5' : r3 = #[.int .i64 0, .int .i64 0, .int .i64 0, .int .i64 0, .int .i64 0, .int .i64 0, .slice LA5 ln5 lc5, .slice BA5 bn5 bc5] := ev5
                  clear ev5 hl5 hbb5 hla5 hba5
                  subst ev5'
                  have P5 := G3
                  have I5 := hidT ((hI5.but (by show wr.heap.size < (wr.alloc (.cells zcells 28)).heap.size; rw [size_alloc]; omega) BB3.out).is)
                  have B5 := hidT hb3
                  obtain ⟨p, hp⟩ : ∃ p, wr.heap.size = p := ⟨_, rfl⟩
                  clear TB hI5 hb5 hb5' hx3 hrun3 G3 BB3 BL3 hb3 D1 hs3 hall3
                  rw [hp] at P5 ⊢
                  clear hp
                  obtain ⟨W5, hW5⟩ : ∃ W5, W5 = w3 := ⟨_, rfl⟩
                  subst hW5
                  have D5 : ∀ w', Below W5.heap.size W5 w' → Below wr.heap.size wr w' := fun w' hb => bthen B5.out hb
                  have E0 := D5 W5 (Below.refl _ _)
                  have n0 := k0 W5 E0
                  have n1 := k1 W5 E0
                  have n2 := ky1 W5 E0
                  clear ky0 ky1 ky2 ky3 ky4 ky5 ky6 ky7 k0 k1 m0 m1 D5 E0
                  go_wp2_with fail
                  go_quiet (fail)
                  go_wp2
                  exact ⟨⟨j + 1, by omega, by go_num, hidT (bthen HL.out (bthen B5.out (drawn_below _ _)))⟩, by simp [intOf]; omega⟩
            · obtain rfl : n = j := by omega
              go_wp2
              go_ret
              exact ⟨rfl, HBr.out⟩
        · have hd : D = 4 := by rw [← HD.out, hPe]
          subst hd
          have HPE := hidT hPe
          clear hPe
          have v0 : (R == 0) = true := by simp; omega
          clear HPC
          have hsa := rksame_is _ (.agg #[.int .i64 k.next, .slice A n c]) P.k k w11 KA.out ⟨A, n, c, rfl, HX.out.below HB11.out⟩ true (by rw [HPE.out]; simp)
          go_wp2_with fail
          with_reducible refine hsa.mono ?_
          rintro e w12 ⟨rfl, hb12⟩
          have Y12 := hidT (keepH Y11.out hb12)
          have HB12 := hidT (bthen HB11.out hb12)
          have KB := hidT (KB.out.below hb12)
          have YB := hidT (keepH YB.out hb12)
          clear hb12 hsa i0 i1 a0 a1 b0 b1 Y11 HB11 qn q0 q64
          go_wp2_with fail
          go_loopw [14] (fun i wr => ∃ j : Nat, j ≤ n ∧ i = .int .i64 j ∧ Hid (Below w12.heap.size w12 wr)) (fun i _ => n - (intOf i).toNat)
          case atStart => exact ⟨0, Nat.zero_le _, rfl, hidT (Below.refl _ _)⟩
          case round =>
            obtain ⟨j, hj, rfl, HL⟩ := hrel
            have Yr := hidT (keepH Y12.out HL.out)
            have HBr := hidT (bthen HB12.out HL.out)
            have KBr := hidT (KB.out.below HL.out)
            have YBr := hidT (keepH YB.out HL.out)
            obtain ⟨i0, i1⟩ := cells2 Yr.out
            by_cases hjn : j < n
            · obtain ⟨b, o, y, LAy, lny, lcy, BAy, bny, bcy, rfl, hy, hiy, hcs⟩ := HX.out.told hjn
              have hgot : Keep.got (Keep.freed k.l upto) y.q = if upto < y.q then some y else none := by rw [Keep.got_freed, got_its HR.out hy]
              have HGET : Hid (∀ w', Below wr.heap.size wr w' → Calls Try.prog 20 #[.agg #[.int .i64 k.next, .slice A8 n8 c8], .int .i64 y.q] w' (GetFr w' (Keep.got (Keep.freed k.l upto) y.q))) := hidT fun w' hb => getf_any _ ⟨k.next, Keep.freed k.l upto⟩ y.q w' (KBr.out.below hb) (small_freed HSM.out upto)
              have HIY := hidT hiy
              have HCS := hidT hcs
              have x1 : (0 : Int) ≤ (j : Int) := by omega
              have x2 : (j : Int) < (n : Int) := by omega
              have kb : ∀ w', Below wr.heap.size wr w' → Below w.heap.size w w' := fun w' hb => bthen HBr.out hb
              have ky0 := fun w' (hb : Below wr.heap.size wr w') => (HCS.out w' (kb w' hb)).1
              have ky1 := fun w' (hb : Below wr.heap.size wr w') => (HCS.out w' (kb w' hb)).2.1
              have ky2 := fun w' (hb : Below wr.heap.size wr w') => (HCS.out w' (kb w' hb)).2.2.1
              have ky3 := fun w' (hb : Below wr.heap.size wr w') => (HCS.out w' (kb w' hb)).2.2.2.1
              have ky4 := fun w' (hb : Below wr.heap.size wr w') => (HCS.out w' (kb w' hb)).2.2.2.2.1
              have ky5 := fun w' (hb : Below wr.heap.size wr w') => (HCS.out w' (kb w' hb)).2.2.2.2.2.1
              have ky6 := fun w' (hb : Below wr.heap.size wr w') => (HCS.out w' (kb w' hb)).2.2.2.2.2.2.1
              have ky7 := fun w' (hb : Below wr.heap.size wr w') => (HCS.out w' (kb w' hb)).2.2.2.2.2.2.2
              have k0 := fun w' (hb : Below wr.heap.size wr w') => (cells2 (keepH Yr.out hb)).1
              have k1 := fun w' (hb : Below wr.heap.size wr w') => (cells2 (keepH Yr.out hb)).2
              have m0 := fun w' (hb : Below wr.heap.size wr w') => (cells2 (keepH YBr.out hb)).1
              have m1 := fun w' (hb : Below wr.heap.size wr w') => (cells2 (keepH YBr.out hb)).2
              have HKB := hidT kb
              clear hiy hcs kb
              by_cases hup : upto < y.q
              · rw [if_pos hup] at hgot
                rw [hgot] at HGET
                have qu : decide (upto < y.q) = true := decide_eq_true hup
                clear hgot hup
                go_wp2_with fail
                clear i0 i1
                have D1 : Below wr.heap.size wr (wr.alloc (.cells zcells 28)) := nkeep wr _
                go_region_held_law (fun w' => Below wr.heap.size wr w')
                  (first | exact (Below.refl _ _).drew | exact Below.refl _ _ | exact hb3 | exact hb5 | exact D1.drew | exact D1 | exact nkeep_alloc hb5 _)
                  (first
                    | (go_at_call 20
                       with_reducible refine (HGET.out _ (Below.refl _ _).drew).mono ?_
                       rintro e5 w5 ⟨v5, rfl, hI5, hb5'⟩
                       have hb5 : Below wr.heap.size wr w5 := undrew hb5'
                       obtain ⟨LA5, ln5, lc5, BA5, bn5, bc5, ev5, hl5, hbb5, hla5, hba5⟩ := id hI5
                       have ev5' : v5 = .agg #[.int .i64 y.k, .int .i64 y.q, .int .i64 y.e, .int .i64 y.i, .int .i64 y.t, .int .i64 y.c, .slice LA5 ln5 lc5, .slice BA5 bn5 bc5] := ev5
                       clear ev5 hl5 hbb5 hla5 hba5
                       subst ev5'
                       have TA : True := trivial)
                    | (go_at_call 20
                       with_reducible refine (HGET.out _ D1.drew).mono ?_
                       rintro e5 w5 ⟨v5, rfl, hI5, hb5'⟩
                       have hb5 : Below wr.heap.size wr w5 := bthen D1 (undrew hb5')
                       have hx3 := keepH (alloc_at wr (.cells zcells 28) _ rfl) (undrew hb5')
                       obtain ⟨r3, rfl, hs3, hall3⟩ := hI5.cells
                       obtain ⟨w3, hrun3, G3, BB3, BL3⟩ := st8 hx3 r3 hs3.symm hall3
                       have hb3 : Below wr.heap.size wr w3 := BL3.out _ _ hb5 (Nat.le_refl _)
                       have TB : True := trivial)
                    | fail)
                · have P5 := hidT (alloc_at w5 (.cells #[.int .i64 y.k, .int .i64 y.q, .int .i64 y.e, .int .i64 y.i, .int .i64 y.t, .int .i64 y.c, .slice LA5 ln5 lc5, .slice BA5 bn5 bc5] 28) _ rfl)
                  have I5 := hidT (hI5.is.below (nkeep w5 (.cells #[.int .i64 y.k, .int .i64 y.q, .int .i64 y.e, .int .i64 y.i, .int .i64 y.t, .int .i64 y.c, .slice LA5 ln5 lc5, .slice BA5 bn5 bc5] 28)))
                  have B5 := hidT (nkeep_alloc hb5 (.cells #[.int .i64 y.k, .int .i64 y.q, .int .i64 y.e, .int .i64 y.i, .int .i64 y.t, .int .i64 y.c, .slice LA5 ln5 lc5, .slice BA5 bn5 bc5] 28))
                  obtain ⟨p, hp⟩ : ∃ p, w5.heap.size = p := ⟨_, rfl⟩
                  rw [hp] at P5 ⊢
                  clear TA hI5 hb5 hb5' hp D1
                  generalize w5.alloc (.cells #[.int .i64 y.k, .int .i64 y.q, .int .i64 y.e, .int .i64 y.i, .int .i64 y.t, .int .i64 y.c, .slice LA5 ln5 lc5, .slice BA5 bn5 bc5] 28) = W5 at *
                  have HSAME : Hid (∀ w', Below W5.heap.size W5 w' → Calls Try.prog 24 #[.agg #[.int .i64 y.k, .int .i64 y.q, .int .i64 y.e, .int .i64 y.i, .int .i64 y.t, .int .i64 y.c, .slice LA5 ln5 lc5, .slice BA5 bn5 bc5], .agg #[.int .i64 y.k, .int .i64 y.q, .int .i64 y.e, .int .i64 y.i, .int .i64 y.t, .int .i64 y.c, .slice LAy lny lcy, .slice BAy bny bcy]] w' (BoolIs w' true)) := hidT fun w' hb => rsameI_is _ _ y y w' (I5.out.below hb) (HIY.out.below (HKB.out w' (bthen B5.out hb))) true (by simp)
                  have D5 : ∀ w', Below W5.heap.size W5 w' → Below wr.heap.size wr w' := fun w' hb => bthen B5.out hb
                  have kz0 := fun w' (hb : Below W5.heap.size W5 w') => (cells8 (keepH P5.out hb)).1
                  have kz1 := fun w' (hb : Below W5.heap.size W5 w') => (cells8 (keepH P5.out hb)).2.1
                  have kz2 := fun w' (hb : Below W5.heap.size W5 w') => (cells8 (keepH P5.out hb)).2.2.1
                  have kz3 := fun w' (hb : Below W5.heap.size W5 w') => (cells8 (keepH P5.out hb)).2.2.2.1
                  have kz4 := fun w' (hb : Below W5.heap.size W5 w') => (cells8 (keepH P5.out hb)).2.2.2.2.1
                  have kz5 := fun w' (hb : Below W5.heap.size W5 w') => (cells8 (keepH P5.out hb)).2.2.2.2.2.1
                  have kz6 := fun w' (hb : Below W5.heap.size W5 w') => (cells8 (keepH P5.out hb)).2.2.2.2.2.2.1
                  have kz7 := fun w' (hb : Below W5.heap.size W5 w') => (cells8 (keepH P5.out hb)).2.2.2.2.2.2.2
                  have kt0 := fun w' (hb : Below W5.heap.size W5 w') => ky0 w' (D5 w' hb)
                  have kt1 := fun w' (hb : Below W5.heap.size W5 w') => ky1 w' (D5 w' hb)
                  have kt2 := fun w' (hb : Below W5.heap.size W5 w') => ky2 w' (D5 w' hb)
                  have kt3 := fun w' (hb : Below W5.heap.size W5 w') => ky3 w' (D5 w' hb)
                  have kt4 := fun w' (hb : Below W5.heap.size W5 w') => ky4 w' (D5 w' hb)
                  have kt5 := fun w' (hb : Below W5.heap.size W5 w') => ky5 w' (D5 w' hb)
                  have kt6 := fun w' (hb : Below W5.heap.size W5 w') => ky6 w' (D5 w' hb)
                  have kt7 := fun w' (hb : Below W5.heap.size W5 w') => ky7 w' (D5 w' hb)
                  have n0 := fun w' (hb : Below W5.heap.size W5 w') => k0 w' (D5 w' hb)
                  have n1 := fun w' (hb : Below W5.heap.size W5 w') => k1 w' (D5 w' hb)
                  clear ky0 ky1 ky2 ky3 ky4 ky5 ky6 ky7 k0 k1 m0 m1 D5
                  go_wp2_with fail
                  go_region_held_law (fun w' => Below W5.heap.size W5 w')
                    (first | exact (Below.refl _ _).drew | exact Below.refl _ _ | exact hb6)
                    (first
                      | (go_at_call 24
                         with_reducible refine (HSAME.out _ (Below.refl _ _).drew).mono ?_
                         rintro e6 w6 ⟨rfl, hb6'⟩
                         have hb6 : Below W5.heap.size W5 w6 := undrew hb6')
                      | fail)
                  go_wp2
                  exact ⟨⟨j + 1, by omega, by go_num, hidT (bthen HL.out (bthen B5.out hb6))⟩, by simp [intOf]; omega⟩
                · obtain ⟨LA5, ln5, lc5, BA5, bn5, bc5, ev5, hl5, hbb5, hla5, hba5⟩ := id hI5
                  injection ev5 with ev5
                  have ev5' : r3 = #[.int .i64 y.k, .int .i64 y.q, .int .i64 y.e, .int .i64 y.i, .int .i64 y.t, .int .i64 y.c, .slice LA5 ln5 lc5, .slice BA5 bn5 bc5] := ev5
                  clear ev5 hl5 hbb5 hla5 hba5
                  subst ev5'
                  have P5 := G3
                  have I5 := hidT ((hI5.but (by show wr.heap.size < (wr.alloc (.cells zcells 28)).heap.size; rw [size_alloc]; omega) BB3.out).is)
                  have B5 := hidT hb3
                  obtain ⟨p, hp⟩ : ∃ p, wr.heap.size = p := ⟨_, rfl⟩
                  clear TB hI5 hb5 hb5' hx3 hrun3 G3 BB3 BL3 hb3 D1 hs3 hall3
                  rw [hp] at P5 ⊢
                  clear hp
                  obtain ⟨W5, hW5⟩ : ∃ W5, W5 = w3 := ⟨_, rfl⟩
                  subst hW5
                  have HSAME : Hid (∀ w', Below W5.heap.size W5 w' → Calls Try.prog 24 #[.agg #[.int .i64 y.k, .int .i64 y.q, .int .i64 y.e, .int .i64 y.i, .int .i64 y.t, .int .i64 y.c, .slice LA5 ln5 lc5, .slice BA5 bn5 bc5], .agg #[.int .i64 y.k, .int .i64 y.q, .int .i64 y.e, .int .i64 y.i, .int .i64 y.t, .int .i64 y.c, .slice LAy lny lcy, .slice BAy bny bcy]] w' (BoolIs w' true)) := hidT fun w' hb => rsameI_is _ _ y y w' (I5.out.below hb) (HIY.out.below (HKB.out w' (bthen B5.out hb))) true (by simp)
                  have D5 : ∀ w', Below W5.heap.size W5 w' → Below wr.heap.size wr w' := fun w' hb => bthen B5.out hb
                  have kz0 := fun w' (hb : Below W5.heap.size W5 w') => (cells8 (keepH P5.out hb)).1
                  have kz1 := fun w' (hb : Below W5.heap.size W5 w') => (cells8 (keepH P5.out hb)).2.1
                  have kz2 := fun w' (hb : Below W5.heap.size W5 w') => (cells8 (keepH P5.out hb)).2.2.1
                  have kz3 := fun w' (hb : Below W5.heap.size W5 w') => (cells8 (keepH P5.out hb)).2.2.2.1
                  have kz4 := fun w' (hb : Below W5.heap.size W5 w') => (cells8 (keepH P5.out hb)).2.2.2.2.1
                  have kz5 := fun w' (hb : Below W5.heap.size W5 w') => (cells8 (keepH P5.out hb)).2.2.2.2.2.1
                  have kz6 := fun w' (hb : Below W5.heap.size W5 w') => (cells8 (keepH P5.out hb)).2.2.2.2.2.2.1
                  have kz7 := fun w' (hb : Below W5.heap.size W5 w') => (cells8 (keepH P5.out hb)).2.2.2.2.2.2.2
                  have kt0 := fun w' (hb : Below W5.heap.size W5 w') => ky0 w' (D5 w' hb)
                  have kt1 := fun w' (hb : Below W5.heap.size W5 w') => ky1 w' (D5 w' hb)
                  have kt2 := fun w' (hb : Below W5.heap.size W5 w') => ky2 w' (D5 w' hb)
                  have kt3 := fun w' (hb : Below W5.heap.size W5 w') => ky3 w' (D5 w' hb)
                  have kt4 := fun w' (hb : Below W5.heap.size W5 w') => ky4 w' (D5 w' hb)
                  have kt5 := fun w' (hb : Below W5.heap.size W5 w') => ky5 w' (D5 w' hb)
                  have kt6 := fun w' (hb : Below W5.heap.size W5 w') => ky6 w' (D5 w' hb)
                  have kt7 := fun w' (hb : Below W5.heap.size W5 w') => ky7 w' (D5 w' hb)
                  have n0 := fun w' (hb : Below W5.heap.size W5 w') => k0 w' (D5 w' hb)
                  have n1 := fun w' (hb : Below W5.heap.size W5 w') => k1 w' (D5 w' hb)
                  clear ky0 ky1 ky2 ky3 ky4 ky5 ky6 ky7 k0 k1 m0 m1 D5
                  go_wp2_with fail
                  go_region_held_law (fun w' => Below W5.heap.size W5 w')
                    (first | exact (Below.refl _ _).drew | exact Below.refl _ _ | exact hb6)
                    (first
                      | (go_at_call 24
                         with_reducible refine (HSAME.out _ (Below.refl _ _).drew).mono ?_
                         rintro e6 w6 ⟨rfl, hb6'⟩
                         have hb6 : Below W5.heap.size W5 w6 := undrew hb6')
                      | fail)
                  go_wp2
                  exact ⟨⟨j + 1, by omega, by go_num, hidT (bthen HL.out (bthen B5.out hb6))⟩, by simp [intOf]; omega⟩
              · rw [if_neg hup] at hgot
                rw [hgot] at HGET
                have qu : decide (upto < y.q) = false := decide_eq_false hup
                clear hgot hup
                go_wp2_with fail
                clear i0 i1
                have D1 : Below wr.heap.size wr (wr.alloc (.cells zcells 28)) := nkeep wr _
                go_region_held_law (fun w' => Below wr.heap.size wr w')
                  (first | exact (Below.refl _ _).drew | exact Below.refl _ _ | exact hb3 | exact hb5 | exact D1.drew | exact D1 | exact nkeep_alloc hb5 _)
                  (first
                    | (go_at_call 20
                       with_reducible refine (HGET.out _ (Below.refl _ _).drew).mono ?_
                       rintro e5 w5 ⟨v5, rfl, hI5, hb5'⟩
                       have hb5 : Below wr.heap.size wr w5 := undrew hb5'
                       obtain ⟨LA5, ln5, lc5, BA5, bn5, bc5, ev5, hl5, hbb5, hla5, hba5⟩ := id hI5
                       have ev5' : v5 = .agg #[.int .i64 0, .int .i64 0, .int .i64 0, .int .i64 0, .int .i64 0, .int .i64 0, .slice LA5 ln5 lc5, .slice BA5 bn5 bc5] := ev5
                       clear ev5 hl5 hbb5 hla5 hba5
                       subst ev5'
                       have TA : True := trivial)
                    | (go_at_call 20
                       with_reducible refine (HGET.out _ D1.drew).mono ?_
                       rintro e5 w5 ⟨v5, rfl, hI5, hb5'⟩
                       have hb5 : Below wr.heap.size wr w5 := bthen D1 (undrew hb5')
                       have hx3 := keepH (alloc_at wr (.cells zcells 28) _ rfl) (undrew hb5')
                       obtain ⟨r3, rfl, hs3, hall3⟩ := hI5.cells
                       obtain ⟨w3, hrun3, G3, BB3, BL3⟩ := st8 hx3 r3 hs3.symm hall3
                       have hb3 : Below wr.heap.size wr w3 := BL3.out _ _ hb5 (Nat.le_refl _)
                       have TB : True := trivial)
                    | fail)
                · have P5 := hidT (alloc_at w5 (.cells #[.int .i64 0, .int .i64 0, .int .i64 0, .int .i64 0, .int .i64 0, .int .i64 0, .slice LA5 ln5 lc5, .slice BA5 bn5 bc5] 28) _ rfl)
                  have I5 := hidT (hI5.is.below (nkeep w5 (.cells #[.int .i64 0, .int .i64 0, .int .i64 0, .int .i64 0, .int .i64 0, .int .i64 0, .slice LA5 ln5 lc5, .slice BA5 bn5 bc5] 28)))
                  have B5 := hidT (nkeep_alloc hb5 (.cells #[.int .i64 0, .int .i64 0, .int .i64 0, .int .i64 0, .int .i64 0, .int .i64 0, .slice LA5 ln5 lc5, .slice BA5 bn5 bc5] 28))
                  obtain ⟨p, hp⟩ : ∃ p, w5.heap.size = p := ⟨_, rfl⟩
                  rw [hp] at P5 ⊢
                  clear TA hI5 hb5 hb5' hp D1
                  generalize w5.alloc (.cells #[.int .i64 0, .int .i64 0, .int .i64 0, .int .i64 0, .int .i64 0, .int .i64 0, .slice LA5 ln5 lc5, .slice BA5 bn5 bc5] 28) = W5 at *
                  have D5 : ∀ w', Below W5.heap.size W5 w' → Below wr.heap.size wr w' := fun w' hb => bthen B5.out hb
                  have E0 := D5 W5 (Below.refl _ _)
                  have n0 := k0 W5 E0
                  have n1 := k1 W5 E0
                  have n2 := ky1 W5 E0
                  clear ky0 ky1 ky2 ky3 ky4 ky5 ky6 ky7 k0 k1 m0 m1 D5 E0
                  go_wp2_with fail
                  go_quiet (fail)
                  go_wp2
                  exact ⟨⟨j + 1, by omega, by go_num, hidT (bthen HL.out (bthen B5.out (drawn_below _ _)))⟩, by simp [intOf]; omega⟩
                · obtain ⟨LA5, ln5, lc5, BA5, bn5, bc5, ev5, hl5, hbb5, hla5, hba5⟩ := id hI5
                  injection ev5 with ev5
                  have ev5' : r3 = #[.int .i64 0, .int .i64 0, .int .i64 0, .int .i64 0, .int .i64 0, .int .i64 0, .slice LA5 ln5 lc5, .slice BA5 bn5 bc5] := ev5
                  clear ev5 hl5 hbb5 hla5 hba5
                  subst ev5'
                  have P5 := G3
                  have I5 := hidT ((hI5.but (by show wr.heap.size < (wr.alloc (.cells zcells 28)).heap.size; rw [size_alloc]; omega) BB3.out).is)
                  have B5 := hidT hb3
                  obtain ⟨p, hp⟩ : ∃ p, wr.heap.size = p := ⟨_, rfl⟩
                  clear TB hI5 hb5 hb5' hx3 hrun3 G3 BB3 BL3 hb3 D1 hs3 hall3
                  rw [hp] at P5 ⊢
                  clear hp
                  obtain ⟨W5, hW5⟩ : ∃ W5, W5 = w3 := ⟨_, rfl⟩
                  subst hW5
                  have D5 : ∀ w', Below W5.heap.size W5 w' → Below wr.heap.size wr w' := fun w' hb => bthen B5.out hb
                  have E0 := D5 W5 (Below.refl _ _)
                  have n0 := k0 W5 E0
                  have n1 := k1 W5 E0
                  have n2 := ky1 W5 E0
                  clear ky0 ky1 ky2 ky3 ky4 ky5 ky6 ky7 k0 k1 m0 m1 D5 E0
                  go_wp2_with fail
                  go_quiet (fail)
                  go_wp2
                  exact ⟨⟨j + 1, by omega, by go_num, hidT (bthen HL.out (bthen B5.out (drawn_below _ _)))⟩, by simp [intOf]; omega⟩
            · obtain rfl : n = j := by omega
              go_wp2
              go_ret
              exact ⟨rfl, HBr.out⟩
        · have hd : D = 0 := by rw [← HD.out, hPe]
          subst hd
          have HPE := hidT hPe
          clear hPe
          have q1 : decide (R < 1) = false := decide_eq_false (by omega)
          go_wp2_with fail
          clear i0 i1 a0 a1 b0 b1 qn q0 q64
          go_loopw [14] (fun i wr => ∃ j : Nat, j ≤ n ∧ i = .int .i64 j ∧ Hid (Below w11.heap.size w11 wr)) (fun i _ => n - (intOf i).toNat)
          case atStart => exact ⟨0, Nat.zero_le _, rfl, hidT (Below.refl _ _)⟩
          case round =>
            obtain ⟨j, hj, rfl, HL⟩ := hrel
            have Yr := hidT (keepH Y11.out HL.out)
            have HBr := hidT (bthen HB11.out HL.out)
            have KBr := hidT (KB.out.below HL.out)
            have YBr := hidT (keepH YB.out HL.out)
            obtain ⟨i0, i1⟩ := cells2 Yr.out
            by_cases hjn : j < n
            · obtain ⟨b, o, y, LAy, lny, lcy, BAy, bny, bcy, rfl, hy, hiy, hcs⟩ := HX.out.told hjn
              have hgot : Keep.got (Keep.freed k.l upto) y.q = if upto < y.q then some y else none := by rw [Keep.got_freed, got_its HR.out hy]
              have HGET : Hid (∀ w', Below wr.heap.size wr w' → Calls Try.prog 20 #[.agg #[.int .i64 k.next, .slice A8 n8 c8], .int .i64 y.q] w' (GetFr w' (Keep.got (Keep.freed k.l upto) y.q))) := hidT fun w' hb => getf_any _ ⟨k.next, Keep.freed k.l upto⟩ y.q w' (KBr.out.below hb) (small_freed HSM.out upto)
              have HIY := hidT hiy
              have HCS := hidT hcs
              have x1 : (0 : Int) ≤ (j : Int) := by omega
              have x2 : (j : Int) < (n : Int) := by omega
              have kb : ∀ w', Below wr.heap.size wr w' → Below w.heap.size w w' := fun w' hb => bthen HBr.out hb
              have ky0 := fun w' (hb : Below wr.heap.size wr w') => (HCS.out w' (kb w' hb)).1
              have ky1 := fun w' (hb : Below wr.heap.size wr w') => (HCS.out w' (kb w' hb)).2.1
              have ky2 := fun w' (hb : Below wr.heap.size wr w') => (HCS.out w' (kb w' hb)).2.2.1
              have ky3 := fun w' (hb : Below wr.heap.size wr w') => (HCS.out w' (kb w' hb)).2.2.2.1
              have ky4 := fun w' (hb : Below wr.heap.size wr w') => (HCS.out w' (kb w' hb)).2.2.2.2.1
              have ky5 := fun w' (hb : Below wr.heap.size wr w') => (HCS.out w' (kb w' hb)).2.2.2.2.2.1
              have ky6 := fun w' (hb : Below wr.heap.size wr w') => (HCS.out w' (kb w' hb)).2.2.2.2.2.2.1
              have ky7 := fun w' (hb : Below wr.heap.size wr w') => (HCS.out w' (kb w' hb)).2.2.2.2.2.2.2
              have k0 := fun w' (hb : Below wr.heap.size wr w') => (cells2 (keepH Yr.out hb)).1
              have k1 := fun w' (hb : Below wr.heap.size wr w') => (cells2 (keepH Yr.out hb)).2
              have m0 := fun w' (hb : Below wr.heap.size wr w') => (cells2 (keepH YBr.out hb)).1
              have m1 := fun w' (hb : Below wr.heap.size wr w') => (cells2 (keepH YBr.out hb)).2
              have HKB := hidT kb
              clear hiy hcs kb
              by_cases hup : upto < y.q
              · rw [if_pos hup] at hgot
                rw [hgot] at HGET
                have qu : decide (upto < y.q) = true := decide_eq_true hup
                clear hgot hup
                go_wp2_with fail
                clear i0 i1
                have D1 : Below wr.heap.size wr (wr.alloc (.cells zcells 28)) := nkeep wr _
                go_region_held_law (fun w' => Below wr.heap.size wr w')
                  (first | exact (Below.refl _ _).drew | exact Below.refl _ _ | exact hb3 | exact hb5 | exact D1.drew | exact D1 | exact nkeep_alloc hb5 _)
                  (first
                    | (go_at_call 20
                       with_reducible refine (HGET.out _ (Below.refl _ _).drew).mono ?_
                       rintro e5 w5 ⟨v5, rfl, hI5, hb5'⟩
                       have hb5 : Below wr.heap.size wr w5 := undrew hb5'
                       obtain ⟨LA5, ln5, lc5, BA5, bn5, bc5, ev5, hl5, hbb5, hla5, hba5⟩ := id hI5
                       have ev5' : v5 = .agg #[.int .i64 y.k, .int .i64 y.q, .int .i64 y.e, .int .i64 y.i, .int .i64 y.t, .int .i64 y.c, .slice LA5 ln5 lc5, .slice BA5 bn5 bc5] := ev5
                       clear ev5 hl5 hbb5 hla5 hba5
                       subst ev5'
                       have TA : True := trivial)
                    | (go_at_call 20
                       with_reducible refine (HGET.out _ D1.drew).mono ?_
                       rintro e5 w5 ⟨v5, rfl, hI5, hb5'⟩
                       have hb5 : Below wr.heap.size wr w5 := bthen D1 (undrew hb5')
                       have hx3 := keepH (alloc_at wr (.cells zcells 28) _ rfl) (undrew hb5')
                       obtain ⟨r3, rfl, hs3, hall3⟩ := hI5.cells
                       obtain ⟨w3, hrun3, G3, BB3, BL3⟩ := st8 hx3 r3 hs3.symm hall3
                       have hb3 : Below wr.heap.size wr w3 := BL3.out _ _ hb5 (Nat.le_refl _)
                       have TB : True := trivial)
                    | fail)
                · have P5 := hidT (alloc_at w5 (.cells #[.int .i64 y.k, .int .i64 y.q, .int .i64 y.e, .int .i64 y.i, .int .i64 y.t, .int .i64 y.c, .slice LA5 ln5 lc5, .slice BA5 bn5 bc5] 28) _ rfl)
                  have I5 := hidT (hI5.is.below (nkeep w5 (.cells #[.int .i64 y.k, .int .i64 y.q, .int .i64 y.e, .int .i64 y.i, .int .i64 y.t, .int .i64 y.c, .slice LA5 ln5 lc5, .slice BA5 bn5 bc5] 28)))
                  have B5 := hidT (nkeep_alloc hb5 (.cells #[.int .i64 y.k, .int .i64 y.q, .int .i64 y.e, .int .i64 y.i, .int .i64 y.t, .int .i64 y.c, .slice LA5 ln5 lc5, .slice BA5 bn5 bc5] 28))
                  obtain ⟨p, hp⟩ : ∃ p, w5.heap.size = p := ⟨_, rfl⟩
                  rw [hp] at P5 ⊢
                  clear TA hI5 hb5 hb5' hp D1
                  generalize w5.alloc (.cells #[.int .i64 y.k, .int .i64 y.q, .int .i64 y.e, .int .i64 y.i, .int .i64 y.t, .int .i64 y.c, .slice LA5 ln5 lc5, .slice BA5 bn5 bc5] 28) = W5 at *
                  have HSAME : Hid (∀ w', Below W5.heap.size W5 w' → Calls Try.prog 24 #[.agg #[.int .i64 y.k, .int .i64 y.q, .int .i64 y.e, .int .i64 y.i, .int .i64 y.t, .int .i64 y.c, .slice LA5 ln5 lc5, .slice BA5 bn5 bc5], .agg #[.int .i64 y.k, .int .i64 y.q, .int .i64 y.e, .int .i64 y.i, .int .i64 y.t, .int .i64 y.c, .slice LAy lny lcy, .slice BAy bny bcy]] w' (BoolIs w' true)) := hidT fun w' hb => rsameI_is _ _ y y w' (I5.out.below hb) (HIY.out.below (HKB.out w' (bthen B5.out hb))) true (by simp)
                  have D5 : ∀ w', Below W5.heap.size W5 w' → Below wr.heap.size wr w' := fun w' hb => bthen B5.out hb
                  have kz0 := fun w' (hb : Below W5.heap.size W5 w') => (cells8 (keepH P5.out hb)).1
                  have kz1 := fun w' (hb : Below W5.heap.size W5 w') => (cells8 (keepH P5.out hb)).2.1
                  have kz2 := fun w' (hb : Below W5.heap.size W5 w') => (cells8 (keepH P5.out hb)).2.2.1
                  have kz3 := fun w' (hb : Below W5.heap.size W5 w') => (cells8 (keepH P5.out hb)).2.2.2.1
                  have kz4 := fun w' (hb : Below W5.heap.size W5 w') => (cells8 (keepH P5.out hb)).2.2.2.2.1
                  have kz5 := fun w' (hb : Below W5.heap.size W5 w') => (cells8 (keepH P5.out hb)).2.2.2.2.2.1
                  have kz6 := fun w' (hb : Below W5.heap.size W5 w') => (cells8 (keepH P5.out hb)).2.2.2.2.2.2.1
                  have kz7 := fun w' (hb : Below W5.heap.size W5 w') => (cells8 (keepH P5.out hb)).2.2.2.2.2.2.2
                  have kt0 := fun w' (hb : Below W5.heap.size W5 w') => ky0 w' (D5 w' hb)
                  have kt1 := fun w' (hb : Below W5.heap.size W5 w') => ky1 w' (D5 w' hb)
                  have kt2 := fun w' (hb : Below W5.heap.size W5 w') => ky2 w' (D5 w' hb)
                  have kt3 := fun w' (hb : Below W5.heap.size W5 w') => ky3 w' (D5 w' hb)
                  have kt4 := fun w' (hb : Below W5.heap.size W5 w') => ky4 w' (D5 w' hb)
                  have kt5 := fun w' (hb : Below W5.heap.size W5 w') => ky5 w' (D5 w' hb)
                  have kt6 := fun w' (hb : Below W5.heap.size W5 w') => ky6 w' (D5 w' hb)
                  have kt7 := fun w' (hb : Below W5.heap.size W5 w') => ky7 w' (D5 w' hb)
                  have n0 := fun w' (hb : Below W5.heap.size W5 w') => k0 w' (D5 w' hb)
                  have n1 := fun w' (hb : Below W5.heap.size W5 w') => k1 w' (D5 w' hb)
                  clear ky0 ky1 ky2 ky3 ky4 ky5 ky6 ky7 k0 k1 m0 m1 D5
                  go_wp2_with fail
                  go_region_held_law (fun w' => Below W5.heap.size W5 w')
                    (first | exact (Below.refl _ _).drew | exact Below.refl _ _ | exact hb6)
                    (first
                      | (go_at_call 24
                         with_reducible refine (HSAME.out _ (Below.refl _ _).drew).mono ?_
                         rintro e6 w6 ⟨rfl, hb6'⟩
                         have hb6 : Below W5.heap.size W5 w6 := undrew hb6')
                      | fail)
                  go_wp2
                  exact ⟨⟨j + 1, by omega, by go_num, hidT (bthen HL.out (bthen B5.out hb6))⟩, by simp [intOf]; omega⟩
                · obtain ⟨LA5, ln5, lc5, BA5, bn5, bc5, ev5, hl5, hbb5, hla5, hba5⟩ := id hI5
                  injection ev5 with ev5
                  have ev5' : r3 = #[.int .i64 y.k, .int .i64 y.q, .int .i64 y.e, .int .i64 y.i, .int .i64 y.t, .int .i64 y.c, .slice LA5 ln5 lc5, .slice BA5 bn5 bc5] := ev5
                  clear ev5 hl5 hbb5 hla5 hba5
                  subst ev5'
                  have P5 := G3
                  have I5 := hidT ((hI5.but (by show wr.heap.size < (wr.alloc (.cells zcells 28)).heap.size; rw [size_alloc]; omega) BB3.out).is)
                  have B5 := hidT hb3
                  obtain ⟨p, hp⟩ : ∃ p, wr.heap.size = p := ⟨_, rfl⟩
                  clear TB hI5 hb5 hb5' hx3 hrun3 G3 BB3 BL3 hb3 D1 hs3 hall3
                  rw [hp] at P5 ⊢
                  clear hp
                  obtain ⟨W5, hW5⟩ : ∃ W5, W5 = w3 := ⟨_, rfl⟩
                  subst hW5
                  have HSAME : Hid (∀ w', Below W5.heap.size W5 w' → Calls Try.prog 24 #[.agg #[.int .i64 y.k, .int .i64 y.q, .int .i64 y.e, .int .i64 y.i, .int .i64 y.t, .int .i64 y.c, .slice LA5 ln5 lc5, .slice BA5 bn5 bc5], .agg #[.int .i64 y.k, .int .i64 y.q, .int .i64 y.e, .int .i64 y.i, .int .i64 y.t, .int .i64 y.c, .slice LAy lny lcy, .slice BAy bny bcy]] w' (BoolIs w' true)) := hidT fun w' hb => rsameI_is _ _ y y w' (I5.out.below hb) (HIY.out.below (HKB.out w' (bthen B5.out hb))) true (by simp)
                  have D5 : ∀ w', Below W5.heap.size W5 w' → Below wr.heap.size wr w' := fun w' hb => bthen B5.out hb
                  have kz0 := fun w' (hb : Below W5.heap.size W5 w') => (cells8 (keepH P5.out hb)).1
                  have kz1 := fun w' (hb : Below W5.heap.size W5 w') => (cells8 (keepH P5.out hb)).2.1
                  have kz2 := fun w' (hb : Below W5.heap.size W5 w') => (cells8 (keepH P5.out hb)).2.2.1
                  have kz3 := fun w' (hb : Below W5.heap.size W5 w') => (cells8 (keepH P5.out hb)).2.2.2.1
                  have kz4 := fun w' (hb : Below W5.heap.size W5 w') => (cells8 (keepH P5.out hb)).2.2.2.2.1
                  have kz5 := fun w' (hb : Below W5.heap.size W5 w') => (cells8 (keepH P5.out hb)).2.2.2.2.2.1
                  have kz6 := fun w' (hb : Below W5.heap.size W5 w') => (cells8 (keepH P5.out hb)).2.2.2.2.2.2.1
                  have kz7 := fun w' (hb : Below W5.heap.size W5 w') => (cells8 (keepH P5.out hb)).2.2.2.2.2.2.2
                  have kt0 := fun w' (hb : Below W5.heap.size W5 w') => ky0 w' (D5 w' hb)
                  have kt1 := fun w' (hb : Below W5.heap.size W5 w') => ky1 w' (D5 w' hb)
                  have kt2 := fun w' (hb : Below W5.heap.size W5 w') => ky2 w' (D5 w' hb)
                  have kt3 := fun w' (hb : Below W5.heap.size W5 w') => ky3 w' (D5 w' hb)
                  have kt4 := fun w' (hb : Below W5.heap.size W5 w') => ky4 w' (D5 w' hb)
                  have kt5 := fun w' (hb : Below W5.heap.size W5 w') => ky5 w' (D5 w' hb)
                  have kt6 := fun w' (hb : Below W5.heap.size W5 w') => ky6 w' (D5 w' hb)
                  have kt7 := fun w' (hb : Below W5.heap.size W5 w') => ky7 w' (D5 w' hb)
                  have n0 := fun w' (hb : Below W5.heap.size W5 w') => k0 w' (D5 w' hb)
                  have n1 := fun w' (hb : Below W5.heap.size W5 w') => k1 w' (D5 w' hb)
                  clear ky0 ky1 ky2 ky3 ky4 ky5 ky6 ky7 k0 k1 m0 m1 D5
                  go_wp2_with fail
                  go_region_held_law (fun w' => Below W5.heap.size W5 w')
                    (first | exact (Below.refl _ _).drew | exact Below.refl _ _ | exact hb6)
                    (first
                      | (go_at_call 24
                         with_reducible refine (HSAME.out _ (Below.refl _ _).drew).mono ?_
                         rintro e6 w6 ⟨rfl, hb6'⟩
                         have hb6 : Below W5.heap.size W5 w6 := undrew hb6')
                      | fail)
                  go_wp2
                  exact ⟨⟨j + 1, by omega, by go_num, hidT (bthen HL.out (bthen B5.out hb6))⟩, by simp [intOf]; omega⟩
              · rw [if_neg hup] at hgot
                rw [hgot] at HGET
                have qu : decide (upto < y.q) = false := decide_eq_false hup
                clear hgot hup
                go_wp2_with fail
                clear i0 i1
                have D1 : Below wr.heap.size wr (wr.alloc (.cells zcells 28)) := nkeep wr _
                go_region_held_law (fun w' => Below wr.heap.size wr w')
                  (first | exact (Below.refl _ _).drew | exact Below.refl _ _ | exact hb3 | exact hb5 | exact D1.drew | exact D1 | exact nkeep_alloc hb5 _)
                  (first
                    | (go_at_call 20
                       with_reducible refine (HGET.out _ (Below.refl _ _).drew).mono ?_
                       rintro e5 w5 ⟨v5, rfl, hI5, hb5'⟩
                       have hb5 : Below wr.heap.size wr w5 := undrew hb5'
                       obtain ⟨LA5, ln5, lc5, BA5, bn5, bc5, ev5, hl5, hbb5, hla5, hba5⟩ := id hI5
                       have ev5' : v5 = .agg #[.int .i64 0, .int .i64 0, .int .i64 0, .int .i64 0, .int .i64 0, .int .i64 0, .slice LA5 ln5 lc5, .slice BA5 bn5 bc5] := ev5
                       clear ev5 hl5 hbb5 hla5 hba5
                       subst ev5'
                       have TA : True := trivial)
                    | (go_at_call 20
                       with_reducible refine (HGET.out _ D1.drew).mono ?_
                       rintro e5 w5 ⟨v5, rfl, hI5, hb5'⟩
                       have hb5 : Below wr.heap.size wr w5 := bthen D1 (undrew hb5')
                       have hx3 := keepH (alloc_at wr (.cells zcells 28) _ rfl) (undrew hb5')
                       obtain ⟨r3, rfl, hs3, hall3⟩ := hI5.cells
                       obtain ⟨w3, hrun3, G3, BB3, BL3⟩ := st8 hx3 r3 hs3.symm hall3
                       have hb3 : Below wr.heap.size wr w3 := BL3.out _ _ hb5 (Nat.le_refl _)
                       have TB : True := trivial)
                    | fail)
                · have P5 := hidT (alloc_at w5 (.cells #[.int .i64 0, .int .i64 0, .int .i64 0, .int .i64 0, .int .i64 0, .int .i64 0, .slice LA5 ln5 lc5, .slice BA5 bn5 bc5] 28) _ rfl)
                  have I5 := hidT (hI5.is.below (nkeep w5 (.cells #[.int .i64 0, .int .i64 0, .int .i64 0, .int .i64 0, .int .i64 0, .int .i64 0, .slice LA5 ln5 lc5, .slice BA5 bn5 bc5] 28)))
                  have B5 := hidT (nkeep_alloc hb5 (.cells #[.int .i64 0, .int .i64 0, .int .i64 0, .int .i64 0, .int .i64 0, .int .i64 0, .slice LA5 ln5 lc5, .slice BA5 bn5 bc5] 28))
                  obtain ⟨p, hp⟩ : ∃ p, w5.heap.size = p := ⟨_, rfl⟩
                  rw [hp] at P5 ⊢
                  clear TA hI5 hb5 hb5' hp D1
                  generalize w5.alloc (.cells #[.int .i64 0, .int .i64 0, .int .i64 0, .int .i64 0, .int .i64 0, .int .i64 0, .slice LA5 ln5 lc5, .slice BA5 bn5 bc5] 28) = W5 at *
                  have D5 : ∀ w', Below W5.heap.size W5 w' → Below wr.heap.size wr w' := fun w' hb => bthen B5.out hb
                  have E0 := D5 W5 (Below.refl _ _)
                  have n0 := k0 W5 E0
                  have n1 := k1 W5 E0
                  have n2 := ky1 W5 E0
                  clear ky0 ky1 ky2 ky3 ky4 ky5 ky6 ky7 k0 k1 m0 m1 D5 E0
                  go_wp2_with fail
                  go_quiet (fail)
                  go_wp2
                  exact ⟨⟨j + 1, by omega, by go_num, hidT (bthen HL.out (bthen B5.out (drawn_below _ _)))⟩, by simp [intOf]; omega⟩
                · obtain ⟨LA5, ln5, lc5, BA5, bn5, bc5, ev5, hl5, hbb5, hla5, hba5⟩ := id hI5
                  injection ev5 with ev5
                  have ev5' : r3 = #[.int .i64 0, .int .i64 0, .int .i64 0, .int .i64 0, .int .i64 0, .int .i64 0, .slice LA5 ln5 lc5, .slice BA5 bn5 bc5] := ev5
                  clear ev5 hl5 hbb5 hla5 hba5
                  subst ev5'
                  have P5 := G3
                  have I5 := hidT ((hI5.but (by show wr.heap.size < (wr.alloc (.cells zcells 28)).heap.size; rw [size_alloc]; omega) BB3.out).is)
                  have B5 := hidT hb3
                  obtain ⟨p, hp⟩ : ∃ p, wr.heap.size = p := ⟨_, rfl⟩
                  clear TB hI5 hb5 hb5' hx3 hrun3 G3 BB3 BL3 hb3 D1 hs3 hall3
                  rw [hp] at P5 ⊢
                  clear hp
                  obtain ⟨W5, hW5⟩ : ∃ W5, W5 = w3 := ⟨_, rfl⟩
                  subst hW5
                  have D5 : ∀ w', Below W5.heap.size W5 w' → Below wr.heap.size wr w' := fun w' hb => bthen B5.out hb
                  have E0 := D5 W5 (Below.refl _ _)
                  have n0 := k0 W5 E0
                  have n1 := k1 W5 E0
                  have n2 := ky1 W5 E0
                  clear ky0 ky1 ky2 ky3 ky4 ky5 ky6 ky7 k0 k1 m0 m1 D5 E0
                  go_wp2_with fail
                  go_quiet (fail)
                  go_wp2
                  exact ⟨⟨j + 1, by omega, by go_num, hidT (bthen HL.out (bthen B5.out (drawn_below _ _)))⟩, by simp [intOf]; omega⟩
            · obtain rfl : n = j := by omega
              have KAr := hidT (KA.out.below HL.out)
              have IXr := hidT (IX.out.below HL.out)
              have YAr := hidT (keepH YA.out HL.out)
              have YXr := hidT (keepH YX.out HL.out)
              obtain ⟨a0, a1⟩ := cells2 YAr.out
              have hsmp : SmallL P.k.l := by
                rw [HPE.out]
                refine ⟨by rw [List.length_append, HLEN.out]; simp; omega, fun z hz => ?_⟩
                rcases List.mem_append.1 hz with hz | hz
                · exact HSM.out.2 z hz
                · obtain rfl : z = Keep.wq x k.next := by simpa using hz
                  have := HSX.out
                  exact ⟨by show x.l.length ≤ 65536; omega, by show x.b.length ≤ 65536; omega⟩
              have hgt := get_any _ P.k k.next wr KAr.out hsmp
              have hgp : Keep.got P.k.l k.next = some (Keep.wq x k.next) := by rw [HPE.out]; exact Keep.got_pushed HR.out x
              rw [hgp] at hgt
              clear hgp hsmp
              go_wp2_with fail
              with_reducible refine hgt.mono ?_
              rintro e w13 ⟨v13, rfl, hI13, hb13⟩
              obtain ⟨LA5, ln5, lc5, BA5, bn5, bc5, ev5, hl5, hbb5⟩ := id hI13
              have ev5' : v13 = .agg #[.int .i64 x.k, .int .i64 k.next, .int .i64 x.e, .int .i64 x.i, .int .i64 x.t, .int .i64 x.c, .slice LA5 ln5 lc5, .slice BA5 bn5 bc5] := ev5
              clear ev5 hl5 hbb5
              subst ev5'
              have t1 := alloc_at w13 (.cells #[.int .i64 x.k, .int .i64 k.next, .int .i64 x.e, .int .i64 x.i, .int .i64 x.t, .int .i64 x.c, .slice LA5 ln5 lc5, .slice BA5 bn5 bc5] 28) _ rfl
              have t3 := nkeep w13 (.cells #[.int .i64 x.k, .int .i64 k.next, .int .i64 x.e, .int .i64 x.i, .int .i64 x.t, .int .i64 x.c, .slice LA5 ln5 lc5, .slice BA5 bn5 bc5] 28)
              obtain ⟨p, hp⟩ : ∃ p, w13.heap.size = p := ⟨_, rfl⟩
              rw [hp] at t1
              have hb14 := bthen hb13 t3
              have Y14 := hidT (keepH Yr.out hb14)
              have HB14 := hidT (bthen HBr.out hb14)
              have YA14 := hidT (keepH YAr.out hb14)
              have YX14 := hidT (keepH YXr.out hb14)
              have IX14 := hidT (IXr.out.below hb14)
              have II14 := hidT (hI13.below t3)
              obtain ⟨m0, m1, m2, m3, m4, m5, m6, m7⟩ := cells8 t1
              obtain ⟨l0, l1, l2, l3, l4, l5, l6, l7⟩ := cells8 YX14.out
              have HT1 := hidT t1
              obtain ⟨W, hW⟩ : ∃ W, w13.alloc (.cells #[.int .i64 x.k, .int .i64 k.next, .int .i64 x.e, .int .i64 x.i, .int .i64 x.t, .int .i64 x.c, .slice LA5 ln5 lc5, .slice BA5 bn5 bc5] 28) = W := ⟨_, rfl⟩
              rw [hW] at Y14 HB14 YA14 YX14 IX14 II14 HT1
              have HW := hidT hW
              clear hW t1 t3 hb13 hb14 hI13 hgt i0 i1 a0 a1
              have hsa := rsameI_is _ _ P.x (Keep.wq x k.next) W IX14.out II14.out true (by rw [HPE.out]; simp)
              have v1 : (P.x.q == k.next) = true := by rw [HPE.out]; simp [Keep.wq]
              have v2 : ((n6 : Int) == (n : Int) + 1) = true := by rw [HN6.out, HPE.out]; simp [HLEN.out]
              have v3 : (n6 == n + 1) = true := by rw [HN6.out, HPE.out]; simp [HLEN.out]
              have v4 : (P.k.next == k.next + 1) = true := by rw [HPE.out]; simp
              go_wp2_with fail
              rw [HW.out]
              clear hp m0 m1 m2 m3 m4 m5 m6 m7 l0 l1 l2 l3 l4 l5 l6 l7
              with_reducible refine hsa.mono ?_
              rintro e w15 ⟨rfl, hb15⟩
              obtain ⟨i0, i1⟩ := cells2 (keepH Y14.out hb15)
              obtain ⟨a0, a1⟩ := cells2 (keepH YA14.out hb15)
              have l1 := (cells8 (keepH YX14.out hb15)).2.1
              have HB15 := hidT (bthen HB14.out hb15)
              clear hb15 hsa
              go_wp2
              go_ret
              exact ⟨rfl, HB15.out⟩
end Go.Proofs.Ytgnaecifinlnmaa
