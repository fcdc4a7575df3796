/- The law FragBack, walked. (Written by wip/gen/fragl2.py.) -/
import Derived.Test.YtapdlcfaghbjhaaFragStep
import Derived.Test.YtapdlcfaghbjhaaFragL3
set_option maxRecDepth 100000
namespace Go.Proofs.Ytapdlcfaghbjhaa
open Go.RowKit
set_option linter.unusedVariables false

theorem catB_take {w : World} {A : Option Addr} {K c : Nat} {rs : List Bw} {l : List UInt8} {m : Nat} (h : RdB w A K c rs) (hm : rs.map Bw.b = cutOf l m) (hK : manyN l.length m = K) (j : Nat) (hj : j ≤ K) : catB rs j = l.take (j * m) := by
  induction j with
  | zero => simp [catB_zero]
  | succ j ih =>
    obtain ⟨b, o, r, _, hr, hrd, _⟩ := h.at_ (k := j) (by omega)
    rw [catB_succ hr, ih (by omega), rows_at hm hr (by omega), piece_behind]

theorem fback_out (A : Option Addr) (n c : Nat) (m seq : Int) (w : World) (h : 2000 < n ∨ m < 1) :
    Calls Try.prog 4 #[.slice A n c, .int .i64 m, .int .i64 seq] w (Yes w) := by
  by_cases h1 : 2000 < n
  · have q1 : decide ((2000 : Int) < (n : Int)) = true := by simp; omega
    have p1 : decide (2000 < n) = true := by simp; omega
    go_enter Try.func4, Try.ntmps4
    go_wp2_with fail
    with_reducible refine (fshown_any _).mono ?_
    rintro e w1 ⟨rfl, hb1⟩
    go_wp2
    go_ret
    exact ⟨rfl, hb1⟩
  · have q1 : decide ((2000 : Int) < (n : Int)) = false := by simp; omega
    have p1 : decide (2000 < n) = false := by simp; omega
    have q2 : decide (m < 1) = true := by simp; omega
    go_enter Try.func4, Try.ntmps4
    go_wp2_with fail
    with_reducible refine (fshown_any _).mono ?_
    rintro e w1 ⟨rfl, hb1⟩
    go_wp2
    go_ret
    exact ⟨rfl, hb1⟩

set_option maxRecDepth 100000 in
set_option maxHeartbeats 4000000 in
theorem fback_many (A : Option Addr) (n c : Nat) (l : List UInt8) (m : Nat) (seq : Int) (w : World) (h : Rd w A n c l) (hn : n ≤ 2000) (hm : 1 ≤ m) (hmm : m ≤ 9223372036854775807) (hs : I64 seq) (hKK : 32 < manyN n m) :
    Calls Try.prog 4 #[.slice A n c, .int .i64 (m : Int), .int .i64 seq] w (Yes w) := by
  have q1 : decide ((2000 : Int) < (n : Int)) = false := by simp; omega
  have p1 : decide (2000 < n) = false := by simp; omega
  have q2 : decide ((m : Int) < 1) = false := by simp; omega
  have q3 : decide ((64000 : Int) < (n : Int)) = false := by simp; omega
  have p3 : decide (64000 < n) = false := by simp; omega
  have hln := h.1
  obtain ⟨K, HK⟩ : ∃ K, Hid (manyN n m = K) := ⟨_, hidT rfl⟩
  have hK1 : 1 ≤ K := by rw [← HK.out]; exact manyN_pos _ _
  have hK2 : K ≤ n + 1 := by rw [← HK.out]; exact manyN_le _ _ hm
  have q4 : decide ((K : Int) < 1) = false := by simp; omega
  have p4 : decide (K < 1) = false := by simp; omega
  have q6 : ((K : Int) != (K : Int)) = false := by simp
  have H := hidT h
  have HL := hidT hln
  clear h hln
  have hK3 : 32 < K := by rw [← HK.out]; exact hKK
  have q5 : decide ((32 : Int) < (K : Int)) = true := by simp; omega
  have p5 : decide (32 < K) = true := by simp; omega
  go_enter Try.func4, Try.ntmps4
  go_wp2_with fail
  with_reducible refine (fshown_any _).mono ?_
  rintro e w1 ⟨rfl, hb1⟩
  have hc := cut_some A n c l m w1 (H.out.below hb1) (by omega) hm hmm
  go_wp2_with fail
  with_reducible refine hc.mono ?_
  intro e w2 hG
  obtain ⟨A2, c2, rs, rfl, hR2, hL2, hb2⟩ := hG.open_ K (by rw [cutOf_length, HL.out, HK.out])
  have hb02 := bthen hb1 hb2
  have hmy := many_any (n : Int) (m : Int) w2 ⟨by omega, by omega⟩ ⟨by omega, by omega⟩
  rw [manyI_nat n m hm, HK.out] at hmy
  clear hc hG
  go_wp2_with fail
  with_reducible refine hmy.mono ?_
  rintro e w' ⟨rfl, hww⟩
  obtain rfl : w2 = w' := hww.symm
  clear hww hmy
  go_wp2
  go_ret
  exact ⟨rfl, hb02⟩

set_option maxRecDepth 100000 in
set_option maxHeartbeats 4000000 in
theorem fback_some (A : Option Addr) (n c : Nat) (l : List UInt8) (m : Nat) (seq : Int) (w : World) (h : Rd w A n c l) (hn : n ≤ 2000) (hm : 1 ≤ m) (hmm : m ≤ 9223372036854775807) (hs : I64 seq) (hKK : manyN n m ≤ 32) :
    Calls Try.prog 4 #[.slice A n c, .int .i64 (m : Int), .int .i64 seq] w (Yes w) := by
  have q1 : decide ((2000 : Int) < (n : Int)) = false := by simp; omega
  have p1 : decide (2000 < n) = false := by simp; omega
  have q2 : decide ((m : Int) < 1) = false := by simp; omega
  have q3 : decide ((64000 : Int) < (n : Int)) = false := by simp; omega
  have p3 : decide (64000 < n) = false := by simp; omega
  have hln := h.1
  obtain ⟨K, HK⟩ : ∃ K, Hid (manyN n m = K) := ⟨_, hidT rfl⟩
  have hK1 : 1 ≤ K := by rw [← HK.out]; exact manyN_pos _ _
  have hK2 : K ≤ n + 1 := by rw [← HK.out]; exact manyN_le _ _ hm
  have q4 : decide ((K : Int) < 1) = false := by simp; omega
  have p4 : decide (K < 1) = false := by simp; omega
  have q6 : ((K : Int) != (K : Int)) = false := by simp
  have H := hidT h
  have HL := hidT hln
  clear h hln
  have hK3 : K ≤ 32 := by rw [← HK.out]; exact hKK
  have q5 : decide ((32 : Int) < (K : Int)) = false := by simp; omega
  have p5 : decide (32 < K) = false := by simp; omega
  have HS := hidT hs
  clear hs hKK
  go_enter Try.func4, Try.ntmps4
  go_wp2_with fail
  with_reducible refine (fshown_any _).mono ?_
  rintro e w1 ⟨rfl, hb1⟩
  have hc := cut_some A n c l m w1 (H.out.below hb1) (by omega) hm hmm
  go_wp2_with fail
  with_reducible refine hc.mono ?_
  intro e w2 hG
  obtain ⟨A2, c2, rs, rfl, hR2, hL2, hb2⟩ := hG.open_ K (by rw [cutOf_length, HL.out, HK.out])
  have hb02 := bthen hb1 hb2
  have hmy := many_any (n : Int) (m : Int) w2 ⟨by omega, by omega⟩ ⟨by omega, by omega⟩
  rw [manyI_nat n m hm, HK.out] at hmy
  clear hc hG
  go_wp2_with fail
  with_reducible refine hmy.mono ?_
  rintro e w' ⟨rfl, hww⟩
  obtain rfl : w2 = w' := hww.symm
  clear hww hmy
  have HRB := hidT hR2
  have HCUT := hidT hL2
  have HCAT : Hid (∀ j, j ≤ K → catB rs j = l.take (j * m)) := hidT fun j hj => catB_take hR2 hL2 (by rw [HL.out]; exact HK.out) j hj
  have HALL : Hid (catB rs K = l) := by rw [HCAT.out K (Nat.le_refl _)]; exact hidT (all_taken hm (by rw [HL.out]; exact HK.out))
  have g3 := alloc_at w2 (.cells #[.int .i64 0, .int .i64 0, .int .i64 0, .slice none 0 0] 24) _ rfl
  have hb3 := nkeep w2 (.cells #[.int .i64 0, .int .i64 0, .int .i64 0, .slice none 0 0] 24)
  have G3 := hidT g3
  clear hR2 hL2 g3
  go_wp2
  obtain ⟨w3, HW3⟩ : ∃ w3, Hid (w2 = w3) := ⟨_, hidT rfl⟩
  have hb03 : Below w.heap.size w w3 := by rw [← HW3.out]; exact hb02
  rw [HW3.out] at HRB G3 hb3 ⊢
  clear HW3
  go_loopw [10] (fun i wr => ∃ (j : Nat) (A6 : Option Addr) (n6 c6 : Nat) (pj : Pt), j ≤ K ∧ i = .int .i64 j ∧ Hid ((if j = K then none_ else partAt seq K rs j) = pj) ∧
      Hid (wr.heap[w3.heap.size]? = some (.cells #[.int .i64 pj.seq, .int .i64 pj.total, .int .i64 pj.got, .slice A6 n6 c6] 24 (0, 0))) ∧ Hid (Rd wr A6 n6 c6 pj.b) ∧ Below w3.heap.size w3 wr) (fun i _ => K - (intOf i).toNat)
  case atStart => exact ⟨0, none, 0, 0, none_, Nat.zero_le _, rfl, hidT (by rw [if_neg (by omega)]; rfl), hidT G3.out, hidT (Rd.nil_ _), hb3⟩
  case round =>
    obtain ⟨j, A6, n6, c6, pj, hj, rfl, HPJ, HX, HR6, hbr⟩ := hrel
    have hbwr := bthen hb03 hbr
    by_cases hjK : j < K
    · obtain ⟨b, o, r, rfl, hr, hrd, hcell⟩ := HRB.out.at_ hjK
      have hb23 := hbr
      have x1 : (0 : Int) ≤ (j : Int) := by omega
      have x2 : (j : Int) < (K : Int) := by omega
      have hpe : partAt seq K rs j = pj := by have := HPJ.out; rwa [if_neg (by omega)] at this
      have hpb : pj.b = catB rs j := by rw [← hpe]; exact partAt_b _ _ _ _
      have hn6 : n6 ≤ 2000 := by
        have h1 := HR6.out.1
        rw [hpb, HCAT.out j (by omega), List.length_take, HL.out] at h1
        omega
      have hrn : r.n ≤ 2000 := by
        have h1 := hrd.1
        rw [rows_at HCUT.out hr (by rw [HL.out, HK.out]; exact hjK), piece_length, HL.out] at h1
        omega
      obtain ⟨sj, hsj⟩ : ∃ sj, IntKind.i64.wrap (seq + (j : Int)) = sj := ⟨_, rfl⟩
      have hj1w : IntKind.i64.wrap ((j : Int) + 1) = (j : Int) + 1 := IntWalk.i64_in _ (by omega)
      have hK1w : IntKind.i64.wrap ((K : Int) - 1) = (K : Int) - 1 := IntWalk.i64_in _ (by omega)
      have hstep := add_step (K := K) HS.out (by omega) hjK hr
      rw [hpe, hsj] at hstep
      have kx0 := fun w' (hb : Below wr.heap.size wr w') => (cells4 (keepH HX.out hb)).1
      have kx1 := fun w' (hb : Below wr.heap.size wr w') => (cells4 (keepH HX.out hb)).2.1
      have kx2 := fun w' (hb : Below wr.heap.size wr w') => (cells4 (keepH HX.out hb)).2.2.1
      have kx3 := fun w' (hb : Below wr.heap.size wr w') => (cells4 (keepH HX.out hb)).2.2.2
      have kr := fun w' (hb : Below wr.heap.size wr w') => hcell w' (bthen hb23 hb)
      have D1 : Below wr.heap.size wr (wr.alloc (.cells #[.int .i64 0, .int .i64 0, .int .i64 0, .slice none 0 0] 24)) := nkeep wr _
      clear hpe hpb
      by_cases hlast : j + 1 = K
      · rw [if_pos hlast] at hstep
        have hca : catB rs (j + 1) = l := by rw [hlast]; exact HALL.out
        rw [hca] at hstep
        have q7 : ((j : Int) == (K : Int) - 1) = true := by simp; omega
        clear hca
        have HA : Hid (∀ w', Below wr.heap.size wr w' → Calls Try.prog 11 #[.agg #[.int .i64 pj.seq, .int .i64 pj.total, .int .i64 pj.got, .slice A6 n6 c6], .int .i64 sj, .int .i64 (j : Int), .int .i64 (K : Int), .slice r.A r.n r.c] w' (AddIsF w' ⟨none_, l, true, 0⟩)) := by
          refine hidT fun w' hb => ?_
          have := add_anyF pj A6 n6 c6 sj (j : Int) (K : Int) r.A r.n r.c r.b w' (HR6.out.below hb) (hrd.below (bthen hb23 hb)) (by omega) (by omega)
          rw [hstep] at this
          exact this
        clear hcell hr hrd hstep
        go_wp2_with fail
        go_region_held_law (fun w' => Below wr.heap.size wr w')
          (first | exact (Below.refl _ _).drew | exact hbF | exact hb4 | exact D1.drew | exact D1 | exact bthen hb4 (nkeep _ _))
          (first
            | (go_at_call 11; ((with_reducible refine (HA.out _ (Below.refl _ _).drew).mono ?_); rintro e4 w4 ⟨A4, n4, c4, B4, m4, d4, rfl, hr4, hs4, hb4', ha4, hB4⟩; have hb4 : Below wr.heap.size wr w4 := undrew hb4'; dsimp only [none_] at hr4 hs4 ⊢))
            | (go_at_call 11; ((with_reducible refine (HA.out _ D1.drew).mono ?_); rintro e4 w4 ⟨A4, n4, c4, B4, m4, d4, rfl, hr4, hs4, hb4', ha4, hB4⟩; have hb4 : Below wr.heap.size wr w4 := bthen D1 (undrew hb4'); have y4 := keepH (alloc_at wr (.cells #[.int .i64 0, .int .i64 0, .int .i64 0, .slice none 0 0] 24) _ rfl) (undrew hb4'); obtain ⟨i0, i1, i2, i3⟩ := cells4 y4; have f0 := no_frozen y4 0; have f1 := no_frozen y4 1; have f2 := no_frozen y4 2; have f3 := no_frozen y4 3; have hbF : Below wr.heap.size wr ((((w4.setCell ⟨wr.heap.size, 0, none⟩ (.int .i64 0)).setCell ⟨wr.heap.size, 1, none⟩ (.int .i64 0)).setCell ⟨wr.heap.size, 2, none⟩ (.int .i64 0)).setCell ⟨wr.heap.size, 3, none⟩ (.slice A4 n4 c4)) := (set4 y4 _ _ _ _).2.2 _ _ hb4 (Nat.le_refl _); dsimp only [none_] at hr4 hs4 ⊢))
            | fail)
        · have y5 := alloc_at w4 (.cells #[.int .i64 0, .int .i64 0, .int .i64 0, .slice A4 n4 c4] 24) _ rfl
          have r5 := hr4.alloc (.cells #[.int .i64 0, .int .i64 0, .int .i64 0, .slice A4 n4 c4] 24)
          have s5 := hs4.alloc (.cells #[.int .i64 0, .int .i64 0, .int .i64 0, .slice A4 n4 c4] 24)
          have hb5 := bthen hb4 (nkeep w4 (.cells #[.int .i64 0, .int .i64 0, .int .i64 0, .slice A4 n4 c4] 24))
          have hgx := hb4.size
          have ha5 : ∀ b o, A4 = some ⟨b, o, none⟩ → wr.heap.size ≤ b := fun b o hA => ha4 b o hA
          clear hr4 ha4 hs4 hB4 hb4'
          generalize w4.alloc (.cells #[.int .i64 0, .int .i64 0, .int .i64 0, .slice A4 n4 c4] 24) = W5 at r5 s5 y5 hb5 ⊢
          have x5 := keepH HX.out hb5
          obtain ⟨k0, k1, k2, k3⟩ := cells4 y5
          obtain ⟨l0, l1, l2, l3⟩ := cells4 x5
          have fz := no_frozen x5
          have b35 : Below w3.heap.size w3 W5 := hbr.trans (hb5.mono hbr.size)
          have R5 := hidT r5
          have X5 := hidT x5
          have S5 := hidT s5
          have z5 := strs S5.out W5 (Below.refl _ _)
          have z0 := strs H.out W5 (bthen hb03 b35)
          have ss := str_same (rfl : l = l)
          clear kx0 kx1 kx2 kx3 kr y5 r5 x5 s5
          go_wp2
          obtain ⟨x7, but7, bel7⟩ := set4 X5.out (.int .i64 0) (.int .i64 0) (.int .i64 0) (.slice A4 n4 c4)
          refine ⟨⟨j + 1, A4, n4, c4, none_, by omega, by go_num, hidT ?_, hidT x7, hidT (R5.out.but (fun b o hA => ?_) but7), bel7 _ _ b35 (Nat.le_refl _)⟩, by simp [intOf]; omega⟩
          · rw [if_pos hlast]
          · have h1 := ha5 b o hA
            have h2 := blk_lt HX.out
            omega
        · have s4 := set4 y4 (.int .i64 0) (.int .i64 0) (.int .i64 0) (.slice A4 n4 c4)
          have hza := size_alloc wr (.cells #[.int .i64 0, .int .i64 0, .int .i64 0, .slice none 0 0] 24)
          have r5 := hr4.but (fun b o hA => by have h1 := ha4 b o hA; have h2 : (wr.alloc (.cells #[.int .i64 0, .int .i64 0, .int .i64 0, .slice none 0 0] 24)).heap.size ≤ b := h1; omega) s4.2.1
          have s5 := hs4.but (fun b o hA => by have h1 := hB4 b o hA; have h2 : (wr.alloc (.cells #[.int .i64 0, .int .i64 0, .int .i64 0, .slice none 0 0] 24)).heap.size ≤ b := h1; omega) s4.2.1
          have y5 := s4.1
          have hb5 := hbF
          have hgx : wr.heap.size ≤ wr.heap.size := Nat.le_refl _
          have ha5 : ∀ b o, A4 = some ⟨b, o, none⟩ → wr.heap.size ≤ b := fun b o hA => by have h1 := ha4 b o hA; have h2 : (wr.alloc (.cells #[.int .i64 0, .int .i64 0, .int .i64 0, .slice none 0 0] 24)).heap.size ≤ b := h1; omega
          clear s4 hza hbF i0 i1 i2 i3 f0 f1 f2 f3 y4 hr4 ha4 hs4 hB4 hb4'
          generalize ((((w4.setCell ⟨wr.heap.size, 0, none⟩ (.int .i64 0)).setCell ⟨wr.heap.size, 1, none⟩ (.int .i64 0)).setCell ⟨wr.heap.size, 2, none⟩ (.int .i64 0)).setCell ⟨wr.heap.size, 3, none⟩ (.slice A4 n4 c4)) = W5 at r5 s5 y5 hb5 ⊢
          have x5 := keepH HX.out hb5
          obtain ⟨k0, k1, k2, k3⟩ := cells4 y5
          obtain ⟨l0, l1, l2, l3⟩ := cells4 x5
          have fz := no_frozen x5
          have b35 : Below w3.heap.size w3 W5 := hbr.trans (hb5.mono hbr.size)
          have R5 := hidT r5
          have X5 := hidT x5
          have S5 := hidT s5
          have z5 := strs S5.out W5 (Below.refl _ _)
          have z0 := strs H.out W5 (bthen hb03 b35)
          have ss := str_same (rfl : l = l)
          clear kx0 kx1 kx2 kx3 kr y5 r5 x5 s5
          go_wp2
          obtain ⟨x7, but7, bel7⟩ := set4 X5.out (.int .i64 0) (.int .i64 0) (.int .i64 0) (.slice A4 n4 c4)
          refine ⟨⟨j + 1, A4, n4, c4, none_, by omega, by go_num, hidT ?_, hidT x7, hidT (R5.out.but (fun b o hA => ?_) but7), bel7 _ _ b35 (Nat.le_refl _)⟩, by simp [intOf]; omega⟩
          · rw [if_pos hlast]
          · have h1 := ha5 b o hA
            have h2 := blk_lt HX.out
            omega
      · rw [if_neg hlast, partAt_next, show ((j + 1 : Nat) : Int) = (j : Int) + 1 from by omega] at hstep
        have q7 : ((j : Int) == (K : Int) - 1) = false := by simp; omega
        have HA : Hid (∀ w', Below wr.heap.size wr w' → Calls Try.prog 11 #[.agg #[.int .i64 pj.seq, .int .i64 pj.total, .int .i64 pj.got, .slice A6 n6 c6], .int .i64 sj, .int .i64 (j : Int), .int .i64 (K : Int), .slice r.A r.n r.c] w' (AddIsF w' ⟨⟨seq, (K : Int), (j : Int) + 1, catB rs (j + 1)⟩, [], false, 0⟩)) := by
          refine hidT fun w' hb => ?_
          have := add_anyF pj A6 n6 c6 sj (j : Int) (K : Int) r.A r.n r.c r.b w' (HR6.out.below hb) (hrd.below (bthen hb23 hb)) (by omega) (by omega)
          rw [hstep] at this
          exact this
        clear hcell hr hrd hstep
        go_wp2_with fail
        go_region_held_law (fun w' => Below wr.heap.size wr w')
          (first | exact (Below.refl _ _).drew | exact hbF | exact hb4 | exact D1.drew | exact D1 | exact bthen hb4 (nkeep _ _))
          (first
            | (go_at_call 11; ((with_reducible refine (HA.out _ (Below.refl _ _).drew).mono ?_); rintro e4 w4 ⟨A4, n4, c4, B4, m4, d4, rfl, hr4, hs4, hb4', ha4, hB4⟩; have hb4 : Below wr.heap.size wr w4 := undrew hb4'))
            | (go_at_call 11; ((with_reducible refine (HA.out _ D1.drew).mono ?_); rintro e4 w4 ⟨A4, n4, c4, B4, m4, d4, rfl, hr4, hs4, hb4', ha4, hB4⟩; have hb4 : Below wr.heap.size wr w4 := bthen D1 (undrew hb4'); have y4 := keepH (alloc_at wr (.cells #[.int .i64 0, .int .i64 0, .int .i64 0, .slice none 0 0] 24) _ rfl) (undrew hb4'); obtain ⟨i0, i1, i2, i3⟩ := cells4 y4; have f0 := no_frozen y4 0; have f1 := no_frozen y4 1; have f2 := no_frozen y4 2; have f3 := no_frozen y4 3; have hbF : Below wr.heap.size wr ((((w4.setCell ⟨wr.heap.size, 0, none⟩ (.int .i64 seq)).setCell ⟨wr.heap.size, 1, none⟩ (.int .i64 (K : Int))).setCell ⟨wr.heap.size, 2, none⟩ (.int .i64 ((j : Int) + 1))).setCell ⟨wr.heap.size, 3, none⟩ (.slice A4 n4 c4)) := (set4 y4 _ _ _ _).2.2 _ _ hb4 (Nat.le_refl _)))
            | fail)
        · have y5 := alloc_at w4 (.cells #[.int .i64 seq, .int .i64 (K : Int), .int .i64 ((j : Int) + 1), .slice A4 n4 c4] 24) _ rfl
          have r5 := hr4.alloc (.cells #[.int .i64 seq, .int .i64 (K : Int), .int .i64 ((j : Int) + 1), .slice A4 n4 c4] 24)
          have s5 := hs4.alloc (.cells #[.int .i64 seq, .int .i64 (K : Int), .int .i64 ((j : Int) + 1), .slice A4 n4 c4] 24)
          have hb5 := bthen hb4 (nkeep w4 (.cells #[.int .i64 seq, .int .i64 (K : Int), .int .i64 ((j : Int) + 1), .slice A4 n4 c4] 24))
          have hgx := hb4.size
          have ha5 : ∀ b o, A4 = some ⟨b, o, none⟩ → wr.heap.size ≤ b := fun b o hA => ha4 b o hA
          clear hr4 ha4 hs4 hB4 hb4'
          generalize w4.alloc (.cells #[.int .i64 seq, .int .i64 (K : Int), .int .i64 ((j : Int) + 1), .slice A4 n4 c4] 24) = W5 at r5 s5 y5 hb5 ⊢
          have x5 := keepH HX.out hb5
          obtain ⟨k0, k1, k2, k3⟩ := cells4 y5
          obtain ⟨l0, l1, l2, l3⟩ := cells4 x5
          have fz := no_frozen x5
          have b35 : Below w3.heap.size w3 W5 := hbr.trans (hb5.mono hbr.size)
          have R5 := hidT r5
          have X5 := hidT x5
          have S5 := hidT s5
          clear kx0 kx1 kx2 kx3 kr y5 r5 x5 s5
          go_wp2
          obtain ⟨x7, but7, bel7⟩ := set4 X5.out (.int .i64 seq) (.int .i64 (K : Int)) (.int .i64 ((j : Int) + 1)) (.slice A4 n4 c4)
          refine ⟨⟨j + 1, A4, n4, c4, ⟨seq, (K : Int), (j : Int) + 1, catB rs (j + 1)⟩, by omega, by go_num, hidT ?_, hidT x7, hidT (R5.out.but (fun b o hA => ?_) but7), bel7 _ _ b35 (Nat.le_refl _)⟩, by simp [intOf]; omega⟩
          · rw [if_neg (by omega), partAt_next, show ((j + 1 : Nat) : Int) = (j : Int) + 1 from by omega]
          · have h1 := ha5 b o hA
            have h2 := blk_lt HX.out
            omega
        · have s4 := set4 y4 (.int .i64 seq) (.int .i64 (K : Int)) (.int .i64 ((j : Int) + 1)) (.slice A4 n4 c4)
          have hza := size_alloc wr (.cells #[.int .i64 0, .int .i64 0, .int .i64 0, .slice none 0 0] 24)
          have r5 := hr4.but (fun b o hA => by have h1 := ha4 b o hA; have h2 : (wr.alloc (.cells #[.int .i64 0, .int .i64 0, .int .i64 0, .slice none 0 0] 24)).heap.size ≤ b := h1; omega) s4.2.1
          have s5 := hs4.but (fun b o hA => by have h1 := hB4 b o hA; have h2 : (wr.alloc (.cells #[.int .i64 0, .int .i64 0, .int .i64 0, .slice none 0 0] 24)).heap.size ≤ b := h1; omega) s4.2.1
          have y5 := s4.1
          have hb5 := hbF
          have hgx : wr.heap.size ≤ wr.heap.size := Nat.le_refl _
          have ha5 : ∀ b o, A4 = some ⟨b, o, none⟩ → wr.heap.size ≤ b := fun b o hA => by have h1 := ha4 b o hA; have h2 : (wr.alloc (.cells #[.int .i64 0, .int .i64 0, .int .i64 0, .slice none 0 0] 24)).heap.size ≤ b := h1; omega
          clear s4 hza hbF i0 i1 i2 i3 f0 f1 f2 f3 y4 hr4 ha4 hs4 hB4 hb4'
          generalize ((((w4.setCell ⟨wr.heap.size, 0, none⟩ (.int .i64 seq)).setCell ⟨wr.heap.size, 1, none⟩ (.int .i64 (K : Int))).setCell ⟨wr.heap.size, 2, none⟩ (.int .i64 ((j : Int) + 1))).setCell ⟨wr.heap.size, 3, none⟩ (.slice A4 n4 c4)) = W5 at r5 s5 y5 hb5 ⊢
          have x5 := keepH HX.out hb5
          obtain ⟨k0, k1, k2, k3⟩ := cells4 y5
          obtain ⟨l0, l1, l2, l3⟩ := cells4 x5
          have fz := no_frozen x5
          have b35 : Below w3.heap.size w3 W5 := hbr.trans (hb5.mono hbr.size)
          have R5 := hidT r5
          have X5 := hidT x5
          have S5 := hidT s5
          clear kx0 kx1 kx2 kx3 kr y5 r5 x5 s5
          go_wp2
          obtain ⟨x7, but7, bel7⟩ := set4 X5.out (.int .i64 seq) (.int .i64 (K : Int)) (.int .i64 ((j : Int) + 1)) (.slice A4 n4 c4)
          refine ⟨⟨j + 1, A4, n4, c4, ⟨seq, (K : Int), (j : Int) + 1, catB rs (j + 1)⟩, by omega, by go_num, hidT ?_, hidT x7, hidT (R5.out.but (fun b o hA => ?_) but7), bel7 _ _ b35 (Nat.le_refl _)⟩, by simp [intOf]; omega⟩
          · rw [if_neg (by omega), partAt_next, show ((j + 1 : Nat) : Int) = (j : Int) + 1 from by omega]
          · have h1 := ha5 b o hA
            have h2 := blk_lt HX.out
            omega
    · obtain rfl : j = K := by omega
      obtain rfl : none_ = pj := by have := HPJ.out; rwa [if_pos rfl] at this
      have hn6 : n6 = 0 := HR6.out.1.symm
      subst hn6
      have x5 := HX.out
      dsimp only [none_] at x5
      obtain ⟨k0, k1, k2, k3⟩ := cells4 x5
      go_wp2
      go_ret
      exact ⟨rfl, hbwr⟩

theorem fback_any (A : Option Addr) (n c : Nat) (l : List UInt8) (m seq : Int) (w : World) (h : Rd w A n c l) (im : I64 m) (hs : I64 seq) :
    Calls Try.prog 4 #[.slice A n c, .int .i64 m, .int .i64 seq] w (Yes w) := by
  by_cases h1 : 2000 < n ∨ m < 1
  · exact fback_out A n c m seq w h1
  · obtain ⟨k, rfl⟩ : ∃ k : Nat, m = (k : Int) := ⟨m.toNat, by rw [Int.toNat_of_nonneg (by omega)]⟩
    by_cases h2 : manyN n k ≤ 32
    · exact fback_some A n c l k seq w h (by omega) (by omega) (by have := im.2; omega) hs h2
    · exact fback_many A n c l k seq w h (by omega) (by omega) (by have := im.2; omega) hs (by omega)
end Go.Proofs.Ytapdlcfaghbjhaa
