/- What the document's own Put comes to: taken in; and in one. -/
import Derived.Test.YtkkkfaelpmmffaaRWin4
set_option maxRecDepth 100000
namespace Go.Proofs.Ytkkkfaelpmmffaa
open Go.RowKit
set_option linter.unusedVariables false

set_option maxHeartbeats 8000000 in
theorem rwput_in (A : Option Addr) (n c : Nat) (k : Keep.Kp) (LA : Option Addr) (ln lc : Nat) (BA : Option Addr) (bn bc : Nat) (x : Item.It) (last : Int) (w : World) (hX : RdX w A n c k.l) (hit : IsItem w (.agg #[.int .i64 x.k, .int .i64 x.q, .int .i64 x.e, .int .i64 x.i, .int .i64 x.t, .int .i64 x.c, .slice LA ln lc, .slice BA bn bc]) x) (hm : Item.may x = true) (h1 : ¬ x.q < k.next) (h2 : ¬ last < x.q) (h3 : ¬ 64 ≤ n) (hw : Win.waits k.l x.q = false) :
    Calls Try.prog 18 #[.agg #[.int .i64 k.next, .slice A n c], .agg #[.int .i64 x.k, .int .i64 x.q, .int .i64 x.e, .int .i64 x.i, .int .i64 x.t, .int .i64 x.c, .slice LA ln lc, .slice BA bn bc], .int .i64 last] w (RPutIs w true ⟨k.next, Win.ins k.l x⟩) := by
  have hn := hX.le
  have hlen := hX.size
  obtain ⟨t0, t1, t2, hb⟩ := three_alloc w (.cells #[.int .i64 k.next, .slice A n c] 24) (.cells #[.int .i64 x.k, .int .i64 x.q, .int .i64 x.e, .int .i64 x.i, .int .i64 x.t, .int .i64 x.c, .slice LA ln lc, .slice BA bn bc] 28) (.cells kz 24)
  obtain ⟨j0, j1, j2, j3, j4, j5, j6, j7⟩ := cells8 t1
  obtain ⟨W, hW⟩ : ∃ W, ((w.alloc (.cells #[.int .i64 k.next, .slice A n c] 24)).alloc (.cells #[.int .i64 x.k, .int .i64 x.q, .int .i64 x.e, .int .i64 x.i, .int .i64 x.t, .int .i64 x.c, .slice LA ln lc, .slice BA bn bc] 28)).alloc (.cells kz 24) = W := ⟨_, rfl⟩
  have hws : W.heap.size = w.heap.size + 3 := by rw [← hW, size_alloc, size_alloc, size_alloc]
  rw [hW] at t0 t1 t2 hb j0 j1 j2 j3 j4 j5 j6 j7
  have hmay := rmay_any _ x W (hit.below hb)
  rw [hm] at hmay
  obtain ⟨g, hg⟩ : ∃ g, w.heap.size = g := ⟨_, rfl⟩
  rw [hg] at j0 j1 j2 j3 j4 j5 j6 j7 t0 t1 t2 hws
  have HW := hidT hW
  have HWS := hidT hws
  have HC := hidT hmay
  have T0 := hidT t0
  have T1 := hidT t1
  have T2 := hidT t2
  have HB := hidT hb
  have HX := hidT hX
  have HG := hidT hg
  have HIT := hidT hit
  have HLEN := hidT hlen
  clear t0 t1 t2 hb hW hX hws hit hlen hmay hm
  go_enter Try.func18, Try.ntmps18
  go_wp2_with fail
  rw [HW.out]
  clear hg
  with_reducible refine HC.out.mono ?_
  rintro e w7 ⟨rfl, hb7⟩
  have HB7 := hidT hb7
  clear hb7 j0 j1 j2 j3 j4 j5 j6 j7
  obtain ⟨i0, i1⟩ := cells2 (keepH T0.out HB7.out)
  obtain ⟨j0, j1, j2, j3, j4, j5, j6, j7⟩ := cells8 (keepH T1.out HB7.out)
  have hnw := Win.waits_not.1 hw
  have HNW := hidT hnw
  clear hnw
  have q1 : decide (x.q < k.next) = false := by rw [decide_eq_false_iff_not]; omega
  have q2 : decide (last < x.q) = false := by rw [decide_eq_false_iff_not]; omega
  have q3 : decide ((64 : Int) ≤ (n : Int)) = false := by rw [decide_eq_false_iff_not]; omega
  have q4 : decide (64 ≤ n) = false := by rw [decide_eq_false_iff_not]; omega
  have hwt := rwaits_any (.agg #[.int .i64 k.next, .slice A n c]) k x.q w7 ⟨A, n, c, rfl, HX.out.below (bthen HB.out HB7.out)⟩
  rw [hw] at hwt
  go_wp2_with fail
  with_reducible refine hwt.mono ?_
  rintro e W7 ⟨rfl, hb6⟩
  have HB6 := hidT (bthen HB7.out hb6)
  clear hb6 hwt i0 i1 j0 j1 j2 j3 j4 j5 j6 j7
  clear q1 q2 q3 q4 hw
  obtain ⟨p, hp⟩ : ∃ p, Win.at_ k.l x.q = p := ⟨_, rfl⟩
  have HP := hidT hp
  have hpn : p ≤ n := by have := Win.at_le k.l x.q; rw [hp, HLEN.out] at this; exact this
  clear hp
  go_wp2_with fail
  go_loopw [9, 10, 11] (fun vl ld i wr => ∃ (j m : Nat) (B : Option Addr) (d : Nat) (us : List (Array Value)), j ≤ n ∧ i = .int .i64 j ∧ ld = .bool (decide (p < j)) ∧ vl = .slice B m d ∧ m ≤ 2 * j ∧ Hid (OwnK 8 wr W7.heap.size 28 (.slice B m d) m us) ∧ Hid (AreI w us (insTo k.l x p j)) ∧ Hid (Below W7.heap.size W7 wr)) (fun _ _ i _ => n - (intOf i).toNat)
  case atStart => exact ⟨0, 0, none, 0, [], Nat.zero_le _, rfl, by simp, rfl, by omega, hidT (OwnK.nil_ _ _ _ _), hidT (by simp [insTo]; exact AreI.nil_ _), hidT (Below.refl _ _)⟩
  case round =>
    obtain ⟨j, m, B, d, us, hj, rfl, rfl, rfl, hmj, HO, HA, HBr⟩ := hrel
    obtain ⟨i0, i1⟩ := cells2 (keepH T0.out ((bthen HB6.out HBr.out)))
    have j1 := (cells8 (keepH T1.out ((bthen HB6.out HBr.out)))).2.1
    by_cases hjn : j < n
    · obtain ⟨b, o, y, LA2, ln2, lc2, BA2, bn2, bc2, rfl, hy, hi, hcs⟩ := HX.out.told hjn
      have c1 := (hcs _ (bthen HB.out ((bthen HB6.out HBr.out)))).2.1
      have x1 : (0 : Int) ≤ (j : Int) := by omega
      have x2 : (j : Int) < (n : Int) := by omega
      have HY := hidT hy
      have HCS := hidT hcs
      have HI := hidT hi
      clear hi hy
      rcases Nat.lt_trichotomy j p with hjp | hjp | hjp
      · have hq : decide (x.q < y.q) = false := by
          have := at_before (by rw [HP.out]; exact hjp) HY.out
          rw [decide_eq_false_iff_not]; omega
        have hpj : decide (p < j) = false := by rw [decide_eq_false_iff_not]; omega
        have hpj' : decide (p < j + 1) = false := by rw [decide_eq_false_iff_not]; omega
        have HNE := hidT (insTo_near (x := x) hjp HY.out)
        rw [hpj]
        clear hpj hjp
        go_wp2_with fail
        go_quiet (fail)
        have BX := hidT (drawn_below wr nq)
        have HO' := hidT (HO.out.later BX.out)
        have HBX := hidT (bthen HBr.out BX.out)
        have HCY := hidT (hcs _ (bthen HB.out ((bthen HB6.out HBX.out))))
        clear i0 i1 c1 j1 HO BX hcs
        generalize wr.drewN nq = wq at *
        obtain ⟨i0, i1⟩ := cells2 (keepH T0.out ((bthen HB6.out HBX.out)))
        obtain ⟨c0, c1, c2, c3, c4, c5, c6, c7⟩ := HCY.out
        have HRD := hidT (RdK.lit (k := 8) wq 28 (0, 0) #[.int .i64 y.k, .int .i64 y.q, .int .i64 y.e, .int .i64 y.i, .int .i64 y.t, .int .i64 y.c, .slice LA2 ln2 lc2, .slice BA2 bn2 bc2] [#[.int .i64 y.k, .int .i64 y.q, .int .i64 y.e, .int .i64 y.i, .int .i64 y.t, .int .i64 y.c, .slice LA2 ln2 lc2, .slice BA2 bn2 bc2]] (AllK.one rfl (by simp [Value.oneCell'])) (by simp [flat]) 1 rfl (by simp only [maxLen]; omega) wq.heap.size rfl)
        have HN := hidT (nkeep wq (.cells #[.int .i64 y.k, .int .i64 y.q, .int .i64 y.e, .int .i64 y.i, .int .i64 y.t, .int .i64 y.c, .slice LA2 ln2 lc2, .slice BA2 bn2 bc2] 28))
        have HSZ := hidT (Nat.le_trans HBX.out.size HN.out.size)
        go_wp2_with (
          at_builtin
          refine wpList_appK 8 (by omega) rfl (.tmp 66) (.tmp 72) 22 rfl W7.heap.size 28 _ 96 info8 rfl (by omega) Try.underlying22 (.slice B m d) m us rfl (HO'.out.later HN.out) (some ⟨wq.heap.size, 0, none⟩) 1 1 [#[.int .i64 y.k, .int .i64 y.q, .int .i64 y.e, .int .i64 y.i, .int .i64 y.t, .int .i64 y.c, .slice LA2 ln2 lc2, .slice BA2 bn2 bc2]] rfl HRD.out (by omega) HSZ.out ?_
          intro v9 w9 hO9 hb9 hg9)
        obtain ⟨A9, c9, rfl, _⟩ := OwnK.rd hO9
        refine ⟨⟨j + 1, m + 1, A9, c9, us ++ [#[.int .i64 y.k, .int .i64 y.q, .int .i64 y.e, .int .i64 y.i, .int .i64 y.t, .int .i64 y.c, .slice LA2 ln2 lc2, .slice BA2 bn2 bc2]], by omega, by go_num, by rw [hpj'], rfl, by omega, hidT hO9, hidT ?_, hidT ((bthen HBX.out HN.out).trans hb9)⟩, by simp [intOf]; omega⟩
        rw [HNE.out]
        exact HA.out.app (AreI.one HI.out)
      · subst hjp
        have hq : decide (x.q < y.q) = true := by
          have h1 := at_here (l := k.l) (s := x.q) (y := y) (by rw [HP.out]; exact HY.out)
          have h2 := HNW.out y (List.mem_of_getElem? HY.out)
          rw [decide_eq_true_eq]; omega
        have hpj : decide (j < j) = false := by rw [decide_eq_false_iff_not]; omega
        have hpj' : decide (j < j + 1) = true := by rw [decide_eq_true_eq]; omega
        have HNE := hidT (insTo_here (x := x) HY.out)
        rw [hpj]
        clear hpj
        go_wp2_with fail
        go_quiet (fail)
        have BX := hidT (drawn_below wr nq)
        have HO' := hidT (HO.out.later BX.out)
        have HBX := hidT (bthen HBr.out BX.out)
        have HCY := hidT (hcs _ (bthen HB.out ((bthen HB6.out HBX.out))))
        clear i0 i1 c1 j1 HO BX hcs
        generalize wr.drewN nq = wq at *
        obtain ⟨i0, i1⟩ := cells2 (keepH T0.out ((bthen HB6.out HBX.out)))
        obtain ⟨c0, c1, c2, c3, c4, c5, c6, c7⟩ := HCY.out
        obtain ⟨j0, j1, j2, j3, j4, j5, j6, j7⟩ := cells8 (keepH T1.out ((bthen HB6.out HBX.out)))
        have HRD := hidT (RdK.lit (k := 8) wq 28 (0, 0) #[.int .i64 x.k, .int .i64 x.q, .int .i64 x.e, .int .i64 x.i, .int .i64 x.t, .int .i64 x.c, .slice LA ln lc, .slice BA bn bc] [#[.int .i64 x.k, .int .i64 x.q, .int .i64 x.e, .int .i64 x.i, .int .i64 x.t, .int .i64 x.c, .slice LA ln lc, .slice BA bn bc]] (AllK.one rfl (by simp [Value.oneCell'])) (by simp [flat]) 1 rfl (by simp only [maxLen]; omega) wq.heap.size rfl)
        have HN := hidT (nkeep wq (.cells #[.int .i64 x.k, .int .i64 x.q, .int .i64 x.e, .int .i64 x.i, .int .i64 x.t, .int .i64 x.c, .slice LA ln lc, .slice BA bn bc] 28))
        have HSZ := hidT (Nat.le_trans HBX.out.size HN.out.size)
        go_upto_region 12 with (
          at_builtin
          refine wpList_appK 8 (by omega) rfl (.tmp 62) (.tmp 64) 22 rfl W7.heap.size 28 _ 96 info8 rfl (by omega) Try.underlying22 (.slice B m d) m us rfl (HO'.out.later HN.out) (some ⟨wq.heap.size, 0, none⟩) 1 1 [#[.int .i64 x.k, .int .i64 x.q, .int .i64 x.e, .int .i64 x.i, .int .i64 x.t, .int .i64 x.c, .slice LA ln lc, .slice BA bn bc]] rfl HRD.out (by omega) HSZ.out ?_
          intro v8 w8 hO8 hb8 hg8)
        obtain ⟨A8, c8, rfl, _⟩ := OwnK.rd hO8
        have HBX8 := hidT ((bthen HBX.out HN.out).trans hb8)
        have HO8 := hidT hO8
        have hcs8 := HCS.out _ (bthen HB.out ((bthen HB6.out HBX8.out)))
        clear hO8 hb8 hg8 i0 i1 j0 j1 j2 j3 j4 j5 j6 j7 c0 c1 c2 c3 c4 c5 c6 c7 HRD HN HSZ
        obtain ⟨i0, i1⟩ := cells2 (keepH T0.out ((bthen HB6.out HBX8.out)))
        obtain ⟨c0, c1, c2, c3, c4, c5, c6, c7⟩ := hcs8
        have HRD := hidT (RdK.lit (k := 8) w8 28 (0, 0) #[.int .i64 y.k, .int .i64 y.q, .int .i64 y.e, .int .i64 y.i, .int .i64 y.t, .int .i64 y.c, .slice LA2 ln2 lc2, .slice BA2 bn2 bc2] [#[.int .i64 y.k, .int .i64 y.q, .int .i64 y.e, .int .i64 y.i, .int .i64 y.t, .int .i64 y.c, .slice LA2 ln2 lc2, .slice BA2 bn2 bc2]] (AllK.one rfl (by simp [Value.oneCell'])) (by simp [flat]) 1 rfl (by simp only [maxLen]; omega) w8.heap.size rfl)
        have HN := hidT (nkeep w8 (.cells #[.int .i64 y.k, .int .i64 y.q, .int .i64 y.e, .int .i64 y.i, .int .i64 y.t, .int .i64 y.c, .slice LA2 ln2 lc2, .slice BA2 bn2 bc2] 28))
        have HSZ := hidT (Nat.le_trans HBX8.out.size HN.out.size)
        go_wp2_with (
          at_builtin
          refine wpList_appK 8 (by omega) rfl (.tmp 66) (.tmp 72) 22 rfl W7.heap.size 28 _ 96 info8 rfl (by omega) Try.underlying22 (.slice A8 (m + 1) c8) (m + 1) (us ++ [#[.int .i64 x.k, .int .i64 x.q, .int .i64 x.e, .int .i64 x.i, .int .i64 x.t, .int .i64 x.c, .slice LA ln lc, .slice BA bn bc]]) rfl (HO8.out.later HN.out) (some ⟨w8.heap.size, 0, none⟩) 1 1 [#[.int .i64 y.k, .int .i64 y.q, .int .i64 y.e, .int .i64 y.i, .int .i64 y.t, .int .i64 y.c, .slice LA2 ln2 lc2, .slice BA2 bn2 bc2]] rfl HRD.out (by omega) HSZ.out ?_
          intro v9 w9 hO9 hb9 hg9)
        obtain ⟨A9, c9, rfl, _⟩ := OwnK.rd hO9
        refine ⟨⟨j + 1, m + 1 + 1, A9, c9, us ++ [#[.int .i64 x.k, .int .i64 x.q, .int .i64 x.e, .int .i64 x.i, .int .i64 x.t, .int .i64 x.c, .slice LA ln lc, .slice BA bn bc]] ++ [#[.int .i64 y.k, .int .i64 y.q, .int .i64 y.e, .int .i64 y.i, .int .i64 y.t, .int .i64 y.c, .slice LA2 ln2 lc2, .slice BA2 bn2 bc2]], by omega, by go_num, by rw [hpj'], rfl, by omega, hidT hO9, hidT ?_, hidT ((bthen HBX8.out HN.out).trans hb9)⟩, by simp [intOf]; omega⟩
        rw [HNE.out]
        exact (HA.out.app (AreI.one HIT.out)).app (AreI.one HI.out)
      · have hpj : decide (p < j) = true := by rw [decide_eq_true_eq]; omega
        have hpj' : decide (p < j + 1) = true := by rw [decide_eq_true_eq]; omega
        have HNE := hidT (insTo_far (x := x) hjp HY.out)
        rw [hpj]
        clear hpj hjp
        go_wp2_with fail
        go_quiet (fail)
        have BX := hidT (drawn_below wr nq)
        have HO' := hidT (HO.out.later BX.out)
        have HBX := hidT (bthen HBr.out BX.out)
        have HCY := hidT (hcs _ (bthen HB.out ((bthen HB6.out HBX.out))))
        clear i0 i1 c1 j1 HO BX hcs
        generalize wr.drewN nq = wq at *
        obtain ⟨i0, i1⟩ := cells2 (keepH T0.out ((bthen HB6.out HBX.out)))
        obtain ⟨c0, c1, c2, c3, c4, c5, c6, c7⟩ := HCY.out
        have HRD := hidT (RdK.lit (k := 8) wq 28 (0, 0) #[.int .i64 y.k, .int .i64 y.q, .int .i64 y.e, .int .i64 y.i, .int .i64 y.t, .int .i64 y.c, .slice LA2 ln2 lc2, .slice BA2 bn2 bc2] [#[.int .i64 y.k, .int .i64 y.q, .int .i64 y.e, .int .i64 y.i, .int .i64 y.t, .int .i64 y.c, .slice LA2 ln2 lc2, .slice BA2 bn2 bc2]] (AllK.one rfl (by simp [Value.oneCell'])) (by simp [flat]) 1 rfl (by simp only [maxLen]; omega) wq.heap.size rfl)
        have HN := hidT (nkeep wq (.cells #[.int .i64 y.k, .int .i64 y.q, .int .i64 y.e, .int .i64 y.i, .int .i64 y.t, .int .i64 y.c, .slice LA2 ln2 lc2, .slice BA2 bn2 bc2] 28))
        have HSZ := hidT (Nat.le_trans HBX.out.size HN.out.size)
        go_wp2_with (
          at_builtin
          refine wpList_appK 8 (by omega) rfl (.tmp 66) (.tmp 72) 22 rfl W7.heap.size 28 _ 96 info8 rfl (by omega) Try.underlying22 (.slice B m d) m us rfl (HO'.out.later HN.out) (some ⟨wq.heap.size, 0, none⟩) 1 1 [#[.int .i64 y.k, .int .i64 y.q, .int .i64 y.e, .int .i64 y.i, .int .i64 y.t, .int .i64 y.c, .slice LA2 ln2 lc2, .slice BA2 bn2 bc2]] rfl HRD.out (by omega) HSZ.out ?_
          intro v9 w9 hO9 hb9 hg9)
        obtain ⟨A9, c9, rfl, _⟩ := OwnK.rd hO9
        refine ⟨⟨j + 1, m + 1, A9, c9, us ++ [#[.int .i64 y.k, .int .i64 y.q, .int .i64 y.e, .int .i64 y.i, .int .i64 y.t, .int .i64 y.c, .slice LA2 ln2 lc2, .slice BA2 bn2 bc2]], by omega, by go_num, by rw [hpj'], rfl, by omega, hidT hO9, hidT ?_, hidT ((bthen HBX.out HN.out).trans hb9)⟩, by simp [intOf]; omega⟩
        rw [HNE.out]
        exact HA.out.app (AreI.one HI.out)
    · obtain rfl : n = j := by omega
      have z2 := keepH T2.out ((bthen HB6.out HBr.out))
      have hlt7 : g + 2 < W7.heap.size := blk_lt (keepH T2.out HB6.out)
      by_cases hpl : p < n
      · have hpj : decide (p < n) = true := by rw [decide_eq_true_eq]; exact hpl
        have hall : insTo k.l x p n = Win.ins k.l x := by rw [← HLEN.out]; exact insTo_all (by rw [HLEN.out]; exact hpl) HP.out
        have hA := HA.out
        rw [hall] at hA
        have HAA := hidT hA
        rw [hpj]
        clear hpj hall hA hpl
        go_wp2_with (
          refine wpList_stI rfl 24 _ _ rfl (g + 2) #[.int .i64 k.next, .slice B m d] rfl rfl _ _ z2 wsize2 rfl (by simp [Value.oneCell']) ?_
          intro w9 hg9 hbut hbel)
        obtain ⟨e0, e1⟩ := cells2 hg9
        have hgg := HG.out
        have bw := hbel w.heap.size w (bthen HB.out ((bthen HB6.out HBr.out))) (by omega)
        exact bodyPost_ret (v := .tuple #[.agg #[.int .i64 k.next, .slice B m d], .bool true]) (by simp [results, Try.results18, go_sem, e0, e1]) rfl
          ⟨_, rfl, ⟨B, m, d, rfl, us, (HO.out.but hlt7 hbut).same, HAA.out.below bw⟩, bw⟩
      · have hpe : p = n := by omega
        subst hpe
        have hpj : decide (p < p) = false := by rw [decide_eq_false_iff_not]; omega
        have hall : insTo k.l x p p ++ [x] = Win.ins k.l x := by
          have := insTo_end (l := k.l) (x := x) (by rw [HP.out, HLEN.out])
          rw [HLEN.out] at this
          exact this
        have hA := HA.out.app (AreI.one HIT.out)
        rw [hall] at hA
        have HAA := hidT hA
        rw [hpj]
        clear hpj hall hA hpl
        obtain ⟨j0, j1, j2, j3, j4, j5, j6, j7⟩ := cells8 (keepH T1.out ((bthen HB6.out HBr.out)))
        have HRD := hidT (RdK.lit (k := 8) wr 28 (0, 0) #[.int .i64 x.k, .int .i64 x.q, .int .i64 x.e, .int .i64 x.i, .int .i64 x.t, .int .i64 x.c, .slice LA ln lc, .slice BA bn bc] [#[.int .i64 x.k, .int .i64 x.q, .int .i64 x.e, .int .i64 x.i, .int .i64 x.t, .int .i64 x.c, .slice LA ln lc, .slice BA bn bc]] (AllK.one rfl (by simp [Value.oneCell'])) (by simp [flat]) 1 rfl (by simp only [maxLen]; omega) wr.heap.size rfl)
        have HN := hidT (nkeep wr (.cells #[.int .i64 x.k, .int .i64 x.q, .int .i64 x.e, .int .i64 x.i, .int .i64 x.t, .int .i64 x.c, .slice LA ln lc, .slice BA bn bc] 28))
        have HSZ := hidT (Nat.le_trans HBr.out.size HN.out.size)
        go_upto_region 15 with (
          at_builtin
          refine wpList_appK 8 (by omega) rfl (.tmp 76) (.tmp 78) 22 rfl W7.heap.size 28 _ 96 info8 rfl (by omega) Try.underlying22 (.slice B m d) m us rfl (HO.out.later HN.out) (some ⟨wr.heap.size, 0, none⟩) 1 1 [#[.int .i64 x.k, .int .i64 x.q, .int .i64 x.e, .int .i64 x.i, .int .i64 x.t, .int .i64 x.c, .slice LA ln lc, .slice BA bn bc]] rfl HRD.out (by omega) HSZ.out ?_
          intro v9 w9 hO9 hb9 hg9)
        obtain ⟨A9, c9, rfl, _⟩ := OwnK.rd hO9
        have HB9 := hidT ((bthen HBr.out HN.out).trans hb9)
        have HO9 := hidT hO9
        clear hO9 hb9 hg9 i0 i1 j0 j1 j2 j3 j4 j5 j6 j7 z2
        obtain ⟨i0, i1⟩ := cells2 (keepH T0.out ((bthen HB6.out HB9.out)))
        have z2 := keepH T2.out ((bthen HB6.out HB9.out))
        go_wp2_with (
          refine wpList_stI rfl 24 _ _ rfl (g + 2) #[.int .i64 k.next, .slice A9 (m + 1) c9] rfl rfl _ _ z2 wsize2 rfl (by simp [Value.oneCell']) ?_
          intro w10 hg10 hbut hbel)
        obtain ⟨e0, e1⟩ := cells2 hg10
        have hgg := HG.out
        have bw := hbel w.heap.size w (bthen HB.out ((bthen HB6.out HB9.out))) (by omega)
        exact bodyPost_ret (v := .tuple #[.agg #[.int .i64 k.next, .slice A9 (m + 1) c9], .bool true]) (by simp [results, Try.results18, go_sem, e0, e1]) rfl
          ⟨_, rfl, ⟨A9, m + 1, c9, rfl, us ++ [#[.int .i64 x.k, .int .i64 x.q, .int .i64 x.e, .int .i64 x.i, .int .i64 x.t, .int .i64 x.c, .slice LA ln lc, .slice BA bn bc]], (HO9.out.but hlt7 hbut).same, HAA.out.below bw⟩, bw⟩
theorem rwput_any (v u : Value) (k : Keep.Kp) (x : Item.It) (last : Int) (w : World) (h : IsKeep w v k) (hx : IsItem w u x) :
    Calls Try.prog 18 #[v, u, .int .i64 last] w (RPutIs w (Win.takes k x last) (Win.put k x last)) := by
  obtain ⟨A, n, c, rfl, hX⟩ := h
  obtain ⟨LA, ln, lc, BA, bn, bc, rfl, hl, hb⟩ := id hx
  have hlen := hX.size
  cases hm : Item.may x with
  | false =>
    have e : Win.takes k x last = false := by unfold Win.takes; rw [hm, Bool.false_and, Bool.false_and]
    rw [Win.put_no e, e]
    exact rwput_unfit A n c k LA ln lc BA bn bc x last w hX hx hm
  | true =>
    by_cases h1 : x.q < k.next
    · have e : Win.takes k x last = false := by rw [Bool.eq_false_iff]; intro h; have := (Win.takes_iff.1 h).1.2.1; omega
      rw [Win.put_no e, e]
      exact rwput_low A n c k LA ln lc BA bn bc x last w hX hx hm h1
    · by_cases h2 : last < x.q
      · have e : Win.takes k x last = false := by rw [Bool.eq_false_iff]; intro h; have := (Win.takes_iff.1 h).1.2.2; omega
        rw [Win.put_no e, e]
        exact rwput_high A n c k LA ln lc BA bn bc x last w hX hx hm h1 h2
      · by_cases h3 : 64 ≤ n
        · have e : Win.takes k x last = false := by rw [Bool.eq_false_iff]; intro h; have := (Win.takes_iff.1 h).2.1; omega
          rw [Win.put_no e, e]
          exact rwput_full A n c k LA ln lc BA bn bc x last w hX hx hm h1 h2 h3
        · cases hw : Win.waits k.l x.q with
          | true =>
            have e : Win.takes k x last = false := by rw [Bool.eq_false_iff]; intro h; have := (Win.takes_iff.1 h).2.2; rw [hw] at this; cases this
            rw [Win.put_no e, e]
            exact rwput_waits A n c k LA ln lc BA bn bc x last w hX hx hm h1 h2 h3 hw
          | false =>
            have e : Win.takes k x last = true := Win.takes_iff.2 ⟨⟨hm, by omega, by omega⟩, by omega, hw⟩
            rw [Win.put_yes e, e]
            exact rwput_in A n c k LA ln lc BA bn bc x last w hX hx hm h1 h2 h3 hw
end Go.Proofs.Ytkkkfaelpmmffaa
