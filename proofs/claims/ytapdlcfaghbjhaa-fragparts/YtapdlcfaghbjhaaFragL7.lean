/- The law FragParts, walked. -/
import Derived.Test.YtapdlcfaghbjhaaFragStep
set_option maxRecDepth 100000
namespace Go.Proofs.Ytapdlcfaghbjhaa
open Go.RowKit
set_option linter.unusedVariables false

/-- So far no row is too long. -/
def shortB (rs : List Bw) (j : Nat) : Prop := ∀ i r, i < j → rs[i]? = some r → r.n ≤ 60

theorem catB_len {w : World} {A : Option Addr} {K c : Nat} {rs : List Bw} (h : RdB w A K c rs) (j : Nat) (hs : shortB rs j) (hj : j ≤ K) : (catB rs j).length ≤ 60 * j := by
  induction j with
  | zero => simp [catB_zero]
  | succ j ih =>
    obtain ⟨b, o, r, _, hr, hrd, _⟩ := h.at_ (k := j) (by omega)
    rw [catB_succ hr, List.length_append]
    have h1 := ih (fun i r hi hr => hs i r (by omega) hr) (by omega)
    have h2 := hs j r (by omega) hr
    have h3 := hrd.1
    omega

theorem add_last {seq s : Int} {K : Nat} {rs : List Bw} (hK1 : 1 ≤ K) (hK : K ≤ 31) :
    addOf (partAt seq (K + 1) rs K) s (K : Int) ((K : Int) + 1) [] = ⟨none_, catB rs K, true, 0⟩ := by
  have e : partAt seq (K + 1) rs K = ⟨seq, ((K + 1 : Nat) : Int), K, catB rs K⟩ := by unfold partAt; rw [if_neg (by omega)]
  have e1 : ((K + 1 : Nat) : Int) = (K : Int) + 1 := by omega
  have e2 : IntKind.i64.wrap ((K : Int) + 1) = (K : Int) + 1 := IntWalk.i64_in _ (by omega)
  have hf : fits (partAt seq (K + 1) rs K) (K : Int) ((K : Int) + 1) = true := by
    rw [e]
    simp only [fits, Bool.and_eq_true, decide_eq_true_eq, Bool.or_eq_true]
    exact ⟨⟨⟨by omega, by omega⟩, trivial⟩, .inr (by omega)⟩
  have hn : nextP (partAt seq (K + 1) rs K) s ((K : Int) + 1) [] = ⟨seq, (K : Int) + 1, (K : Int) + 1, catB rs K⟩ := by
    rw [e]
    unfold nextP
    dsimp only
    rw [if_neg (by omega), List.append_nil, e2, e1]
  unfold addOf
  rw [if_pos hf, hn]
  dsimp only
  rw [if_pos rfl]

set_option maxRecDepth 100000 in
set_option maxHeartbeats 4000000 in
theorem fparts_in (A : Option Addr) (K c : Nat) (rs : List Bw) (seq : Int) (w : World) (h : RdB w A K c rs) (hs : I64 seq) (hK1 : 1 ≤ K) (hK2 : K ≤ 31) :
    Calls Try.prog 9 #[.slice A K c, .int .i64 seq] w (Yes w) := by
  have q1 : decide ((K : Int) < 1) = false := by simp; omega
  have p1 : decide (K < 1) = false := by simp; omega
  have q2 : decide ((31 : Int) < (K : Int)) = false := by simp; omega
  have p2 : decide (31 < K) = false := by simp; omega
  have H := hidT h
  have HS := hidT hs
  clear h hs
  go_enter Try.func9, Try.ntmps9
  go_wp2_with fail
  with_reducible refine (fshown_any _).mono ?_
  rintro e w1 ⟨rfl, hb1⟩
  have g2 := alloc_at w1 (.cells #[.int .i64 0, .int .i64 0, .int .i64 0, .slice none 0 0] 24) _ rfl
  have hb2 := nkeep w1 (.cells #[.int .i64 0, .int .i64 0, .int .i64 0, .slice none 0 0] 24)
  have HE := hidT (madeB (w1.alloc (.cells #[.int .i64 0, .int .i64 0, .int .i64 0, .slice none 0 0] 24)) (w1.heap.size + 1) (by rw [size_alloc]; exact Nat.le_refl _) 5 (w1.heap.size + 1) (by rw [size_alloc]))
  have g3 := keepH g2 (nkeep _ (.cells #[] 5))
  have hb3 := bthen hb2 (nkeep _ (.cells #[] 5))
  have G3 := hidT g3
  clear g2 hb2 g3
  go_wp2
  go_loopw [7, 8] (fun v7 i wr => ∃ (j q : Nat) (A7 : Option Addr) (c7 : Nat) (A6 : Option Addr) (n6 c6 : Nat) (pj : Pt), j ≤ K ∧ i = .int .i64 j ∧ v7 = .slice A7 q c7 ∧ Hid (shortB rs j) ∧ Hid (partAt seq (K + 1) rs j = pj) ∧ Hid (Own wr (w1.heap.size + 1) 5 (.slice A7 q c7) q (catB rs j)) ∧
      Hid (wr.heap[w1.heap.size]? = some (.cells #[.int .i64 pj.seq, .int .i64 pj.total, .int .i64 pj.got, .slice A6 n6 c6] 24 (0, 0))) ∧ Hid (Rd wr A6 n6 c6 (catB rs j)) ∧ Below w1.heap.size w1 wr) (fun _ i _ => K - (intOf i).toNat)
  case atStart => exact ⟨0, 0, _, _, none, 0, 0, none_, Nat.zero_le _, rfl, rfl, hidT (fun i r hi => absurd hi (by omega)), hidT rfl, HE, hidT G3.out, hidT (Rd.nil_ _), hb3⟩
  case round =>
    obtain ⟨j, q, A7, c7, A6, n6, c6, pj, hj, rfl, rfl, HSH, HPJ, HO, HX, HR6, hbr⟩ := hrel
    have hbwr := bthen hb1 hbr
    have hlen := catB_len H.out j HSH.out hj
    have hn6 : n6 = (catB rs j).length := HR6.out.1.symm
    have hq7 : q = (catB rs j).length := HO.out.size.symm
    have hqb : q ≤ 60 * j := by omega
    by_cases hjK : j < K
    · obtain ⟨b, o, r, rfl, hr, hrd, hcell⟩ := H.out.at_ hjK
      have kc := hcell wr hbwr
      have x1 : (0 : Int) ≤ (j : Int) := by omega
      have x2 : (j : Int) < (K : Int) := by omega
      by_cases h60 : r.n ≤ 60
      · have q3 : decide ((60 : Int) < (r.n : Int)) = false := by simp; omega
        have p3 : decide (60 < r.n) = false := by simp; omega
        have hsh : shortB rs (j + 1) := by
          intro i r' hi hr'
          by_cases hij : i < j
          · exact HSH.out i r' hij hr'
          · obtain rfl : i = j := by omega
            rw [hr] at hr'
            injection hr' with hr'
            subst hr'
            exact h60
        obtain ⟨sj, hsj⟩ : ∃ sj, IntKind.i64.wrap (seq + (j : Int)) = sj := ⟨_, rfl⟩
        have hK1w : IntKind.i64.wrap ((K : Int) + 1) = (K : Int) + 1 := IntWalk.i64_in _ (by omega)
        have hj1w : IntKind.i64.wrap ((j : Int) + 1) = (j : Int) + 1 := IntWalk.i64_in _ (by omega)
        have hstep := add_step (K := K + 1) HS.out (by omega) (show j < K + 1 by omega) hr
        rw [if_neg (by omega), HPJ.out, hsj, show ((K + 1 : Nat) : Int) = (K : Int) + 1 from by omega] at hstep
        have hpb : pj.b = catB rs j := by rw [← HPJ.out]; exact partAt_b _ _ _ _
        have hpn := partAt_next seq (K + 1) rs j
        have HA : Hid (∀ w', Below wr.heap.size wr w' → Calls Try.prog 11 #[.agg #[.int .i64 pj.seq, .int .i64 pj.total, .int .i64 pj.got, .slice A6 n6 c6], .int .i64 sj, .int .i64 (j : Int), .int .i64 ((K : Int) + 1), .slice r.A r.n r.c] w' (AddIsF w' ⟨⟨seq, (K : Int) + 1, (j : Int) + 1, catB rs (j + 1)⟩, [], false, 0⟩)) := by
          refine hidT fun w' hb => ?_
          have := add_anyF pj A6 n6 c6 sj (j : Int) ((K : Int) + 1) r.A r.n r.c r.b w' (by rw [hpb]; exact HR6.out.below hb) (hrd.below (bthen hbwr hb)) (by omega) (by omega)
          rw [hstep, hpn, show ((K + 1 : Nat) : Int) = (K : Int) + 1 from by omega, show ((j + 1 : Nat) : Int) = (j : Int) + 1 from by omega] at this
          exact this
        have kx0 := fun w' (hb : Below wr.heap.size wr w') => (cells4 (keepH HX.out hb)).1
        have kx1 := fun w' (hb : Below wr.heap.size wr w') => (cells4 (keepH HX.out hb)).2.1
        have kx2 := fun w' (hb : Below wr.heap.size wr w') => (cells4 (keepH HX.out hb)).2.2.1
        have kx3 := fun w' (hb : Below wr.heap.size wr w') => (cells4 (keepH HX.out hb)).2.2.2
        have kr := fun w' (hb : Below wr.heap.size wr w') => hcell w' (bthen hbwr hb)
        have HRD := hidT hrd
        have HR := hidT hr
        have HSH2 := hidT hsh
        have D1 : Below wr.heap.size wr (wr.alloc (.cells #[.int .i64 0, .int .i64 0, .int .i64 0, .slice none 0 0] 24)) := nkeep wr _
        clear hcell hr hrd hsh hstep hpb hpn hn6 hq7
        go_wp2_with fail
        clear kc
        go_region_held_law (fun w' => Below wr.heap.size wr w')
          (first | exact (Below.refl _ _).drew | exact hbF | exact hb4 | exact D1.drew | exact D1 | exact bthen hb4 (nkeep _ _))
          (first
            | (go_at_call 11; ((with_reducible refine (HA.out _ (Below.refl _ _).drew).mono ?_); rintro e4 w4 ⟨A4, n4, c4, B4, m4, d4, rfl, hr4, hs4, hb4', ha4, hB4⟩; have hb4 : Below wr.heap.size wr w4 := undrew hb4'))
            | (go_at_call 11; ((with_reducible refine (HA.out _ D1.drew).mono ?_); rintro e4 w4 ⟨A4, n4, c4, B4, m4, d4, rfl, hr4, hs4, hb4', ha4, hB4⟩; have hb4 : Below wr.heap.size wr w4 := bthen D1 (undrew hb4'); have y4 := keepH (alloc_at wr (.cells #[.int .i64 0, .int .i64 0, .int .i64 0, .slice none 0 0] 24) _ rfl) (undrew hb4'); obtain ⟨i0, i1, i2, i3⟩ := cells4 y4; have f0 := no_frozen y4 0; have f1 := no_frozen y4 1; have f2 := no_frozen y4 2; have f3 := no_frozen y4 3; have hbF : Below wr.heap.size wr ((((w4.setCell ⟨wr.heap.size, 0, none⟩ (.int .i64 seq)).setCell ⟨wr.heap.size, 1, none⟩ (.int .i64 ((K : Int) + 1))).setCell ⟨wr.heap.size, 2, none⟩ (.int .i64 ((j : Int) + 1))).setCell ⟨wr.heap.size, 3, none⟩ (.slice A4 n4 c4)) := (set4 y4 _ _ _ _).2.2 _ _ hb4 (Nat.le_refl _)))
            | fail)
        · have y5 := alloc_at w4 (.cells #[.int .i64 seq, .int .i64 ((K : Int) + 1), .int .i64 ((j : Int) + 1), .slice A4 n4 c4] 24) _ rfl
          have r5 := hr4.alloc (.cells #[.int .i64 seq, .int .i64 ((K : Int) + 1), .int .i64 ((j : Int) + 1), .slice A4 n4 c4] 24)
          have hb5 := bthen hb4 (nkeep w4 (.cells #[.int .i64 seq, .int .i64 ((K : Int) + 1), .int .i64 ((j : Int) + 1), .slice A4 n4 c4] 24))
          have hgx := hb4.size
          have ha5 : ∀ b o, A4 = some ⟨b, o, none⟩ → wr.heap.size ≤ b := fun b o hA => ha4 b o hA
          clear hr4 ha4 hb4'
          generalize w4.alloc (.cells #[.int .i64 seq, .int .i64 ((K : Int) + 1), .int .i64 ((j : Int) + 1), .slice A4 n4 c4] 24) = W5 at r5 y5 hb5 ⊢
          have kr5 := kr W5 hb5
          have own5 := HO.out.later hb5
          have rd5 := (HRD.out.below (bthen hbwr hb5)).v
          have x5 := keepH HX.out hb5
          have Y5 := hidT y5
          have R5 := hidT r5
          have X5 := hidT x5
          have O5 := hidT own5
          have D5 := hidT rd5
          have hz5 : w1.heap.size + 1 ≤ W5.heap.size := by have := hb5.size; have := blk_lt HX.out; omega
          clear kx0 kx1 kx2 kx3 kr y5 r5 x5 own5 rd5
          go_wp2_with (
            at_builtin
            refine wpList_appV rfl (.tmp 60) (.tmp 64) 22 rfl (w1.heap.size + 1) 5 (.int .u8 0) 1 info5 rfl (by omega) Try.underlying22 (.slice A7 q c7) q (bs (catB rs j)) rfl O5.out r.A r.n r.c (bs r.b) rfl D5.out (bs_one _) (by omega) hz5 ?_
            intro v6 w6 ho6' hb6 hg6
            have ho6 : Own w6 (w1.heap.size + 1) 5 v6 (q + r.n) (catB rs (j + 1)) := by rw [catB_succ HR.out]; exact Own.appV ho6'
            obtain ⟨A8, c8, rfl, hrd8⟩ := Own.rd ho6
            have y6 := block_apart Y5.out (.inl hgx) HO.out hg6
            have x6 := block_apart X5.out (.inr (by omega)) HO.out hg6
            have r6 := Rd.apart R5.out ha5 HO.out hg6
            have s6 := strs r6 w6 (Below.refl _ _)
            have s8 := strs hrd8 w6 (Below.refl _ _)
            have ss := str_same (rfl : catB rs (j + 1) = catB rs (j + 1))
            obtain ⟨k0, k1, k2, k3⟩ := cells4 y6
            obtain ⟨l0, l1, l2, l3⟩ := cells4 x6
            have fz := no_frozen x6
            have O6 := hidT ho6
            have R6 := hidT r6
            have X6 := hidT x6
            clear ho6 ho6' hg6 hrd8 r6 y6 x6)
          have b16 : Below w1.heap.size w1 w6 := (hbr.trans (hb5.mono (by have := hbr.size; omega))).trans (hb6.mono (by omega))
          obtain ⟨x7, but7, bel7⟩ := set4 X6.out (.int .i64 seq) (.int .i64 ((K : Int) + 1)) (.int .i64 ((j : Int) + 1)) (.slice A4 n4 c4)
          refine ⟨⟨j + 1, q + r.n, A8, c8, A4, n4, c4, ⟨seq, (K : Int) + 1, (j : Int) + 1, catB rs (j + 1)⟩, by omega, by go_num, rfl, HSH2, hidT ?_, hidT (O6.out.but (by omega) but7), hidT x7, hidT (R6.out.but (fun b o hA => ?_) but7), bel7 _ _ b16 (Nat.le_refl _)⟩, by simp [intOf]; omega⟩
          · rw [partAt_next, show ((K + 1 : Nat) : Int) = (K : Int) + 1 from by omega, show ((j + 1 : Nat) : Int) = (j : Int) + 1 from by omega]
          · have h1 := ha5 b o hA
            have h2 := blk_lt HX.out
            omega
        · have s4 := set4 y4 (.int .i64 seq) (.int .i64 ((K : Int) + 1)) (.int .i64 ((j : Int) + 1)) (.slice A4 n4 c4)
          have hza := size_alloc wr (.cells #[.int .i64 0, .int .i64 0, .int .i64 0, .slice none 0 0] 24)
          have r5 := hr4.but (fun b o hA => by have h1 := ha4 b o hA; have h2 : (wr.alloc (.cells #[.int .i64 0, .int .i64 0, .int .i64 0, .slice none 0 0] 24)).heap.size ≤ b := h1; omega) s4.2.1
          have y5 := s4.1
          have hb5 := hbF
          have hgx : wr.heap.size ≤ wr.heap.size := Nat.le_refl _
          have ha5 : ∀ b o, A4 = some ⟨b, o, none⟩ → wr.heap.size ≤ b := fun b o hA => by have h1 := ha4 b o hA; have h2 : (wr.alloc (.cells #[.int .i64 0, .int .i64 0, .int .i64 0, .slice none 0 0] 24)).heap.size ≤ b := h1; omega
          clear s4 hza hbF i0 i1 i2 i3 f0 f1 f2 f3 y4 hr4 ha4 hb4'
          generalize ((((w4.setCell ⟨wr.heap.size, 0, none⟩ (.int .i64 seq)).setCell ⟨wr.heap.size, 1, none⟩ (.int .i64 ((K : Int) + 1))).setCell ⟨wr.heap.size, 2, none⟩ (.int .i64 ((j : Int) + 1))).setCell ⟨wr.heap.size, 3, none⟩ (.slice A4 n4 c4)) = W5 at r5 y5 hb5 ⊢
          have kr5 := kr W5 hb5
          have own5 := HO.out.later hb5
          have rd5 := (HRD.out.below (bthen hbwr hb5)).v
          have x5 := keepH HX.out hb5
          have Y5 := hidT y5
          have R5 := hidT r5
          have X5 := hidT x5
          have O5 := hidT own5
          have D5 := hidT rd5
          have hz5 : w1.heap.size + 1 ≤ W5.heap.size := by have := hb5.size; have := blk_lt HX.out; omega
          clear kx0 kx1 kx2 kx3 kr y5 r5 x5 own5 rd5
          go_wp2_with (
            at_builtin
            refine wpList_appV rfl (.tmp 60) (.tmp 64) 22 rfl (w1.heap.size + 1) 5 (.int .u8 0) 1 info5 rfl (by omega) Try.underlying22 (.slice A7 q c7) q (bs (catB rs j)) rfl O5.out r.A r.n r.c (bs r.b) rfl D5.out (bs_one _) (by omega) hz5 ?_
            intro v6 w6 ho6' hb6 hg6
            have ho6 : Own w6 (w1.heap.size + 1) 5 v6 (q + r.n) (catB rs (j + 1)) := by rw [catB_succ HR.out]; exact Own.appV ho6'
            obtain ⟨A8, c8, rfl, hrd8⟩ := Own.rd ho6
            have y6 := block_apart Y5.out (.inl hgx) HO.out hg6
            have x6 := block_apart X5.out (.inr (by omega)) HO.out hg6
            have r6 := Rd.apart R5.out ha5 HO.out hg6
            have s6 := strs r6 w6 (Below.refl _ _)
            have s8 := strs hrd8 w6 (Below.refl _ _)
            have ss := str_same (rfl : catB rs (j + 1) = catB rs (j + 1))
            obtain ⟨k0, k1, k2, k3⟩ := cells4 y6
            obtain ⟨l0, l1, l2, l3⟩ := cells4 x6
            have fz := no_frozen x6
            have O6 := hidT ho6
            have R6 := hidT r6
            have X6 := hidT x6
            clear ho6 ho6' hg6 hrd8 r6 y6 x6)
          have b16 : Below w1.heap.size w1 w6 := (hbr.trans (hb5.mono (by have := hbr.size; omega))).trans (hb6.mono (by omega))
          obtain ⟨x7, but7, bel7⟩ := set4 X6.out (.int .i64 seq) (.int .i64 ((K : Int) + 1)) (.int .i64 ((j : Int) + 1)) (.slice A4 n4 c4)
          refine ⟨⟨j + 1, q + r.n, A8, c8, A4, n4, c4, ⟨seq, (K : Int) + 1, (j : Int) + 1, catB rs (j + 1)⟩, by omega, by go_num, rfl, HSH2, hidT ?_, hidT (O6.out.but (by omega) but7), hidT x7, hidT (R6.out.but (fun b o hA => ?_) but7), bel7 _ _ b16 (Nat.le_refl _)⟩, by simp [intOf]; omega⟩
          · rw [partAt_next, show ((K + 1 : Nat) : Int) = (K : Int) + 1 from by omega, show ((j + 1 : Nat) : Int) = (j : Int) + 1 from by omega]
          · have h1 := ha5 b o hA
            have h2 := blk_lt HX.out
            omega
      · have q3 : decide ((60 : Int) < (r.n : Int)) = true := by simp; omega
        have p3 : decide (60 < r.n) = true := by simp; omega
        go_wp2
        go_ret
        exact ⟨rfl, hbwr⟩
    · obtain rfl : j = K := by omega
      have hpb : pj.b = catB rs j := by rw [← HPJ.out]; exact partAt_b _ _ _ _
      have hK1w : IntKind.i64.wrap ((j : Int) + 1) = (j : Int) + 1 := IntWalk.i64_in _ (by omega)
      have ha := add_any pj A6 n6 c6 0 (j : Int) ((j : Int) + 1) none 0 0 [] wr (by rw [hpb]; exact HR6.out) (Rd.nil_ _) (by omega) (by omega)
      rw [← HPJ.out, add_last hK1 (by omega), HPJ.out] at ha
      obtain ⟨k0, k1, k2, k3⟩ := cells4 HX.out
      clear hn6 hq7 hpb
      go_wp2_with fail
      with_reducible refine ha.mono ?_
      rintro e w4 ⟨A4, n4, c4, B4, m4, d4, rfl, hr4, hs4, hb4⟩
      dsimp only [none_] at hr4 hs4 ⊢
      have hw5 := nkeep w4 (.cells #[.int .i64 0, .int .i64 0, .int .i64 0, .slice A4 n4 c4] 24)
      have s4 := strs hs4 _ hw5
      have s7 := strs HO.out.same _ (bthen hb4 hw5)
      have ss := str_same (rfl : catB rs j = catB rs j)
      clear ha k0 k1 k2 k3
      go_wp2
      go_ret
      exact ⟨rfl, bthen hbwr (bthen hb4 hw5)⟩

theorem fparts_any (A : Option Addr) (K c : Nat) (rs : List Bw) (seq : Int) (w : World) (h : RdB w A K c rs) (hs : I64 seq) :
    Calls Try.prog 9 #[.slice A K c, .int .i64 seq] w (Yes w) := by
  by_cases h1 : K < 1
  · have q1 : decide ((K : Int) < 1) = true := by simp; omega
    have p1 : decide (K < 1) = true := by simp; omega
    go_enter Try.func9, Try.ntmps9
    go_wp2_with fail
    with_reducible refine (fshown_any _).mono ?_
    rintro e w1 ⟨rfl, hb1⟩
    go_wp2
    go_ret
    exact ⟨rfl, hb1⟩
  · by_cases h2 : 31 < K
    · have q1 : decide ((K : Int) < 1) = false := by simp; omega
      have p1 : decide (K < 1) = false := by simp; omega
      have q2 : decide ((31 : Int) < (K : Int)) = true := by simp; omega
      have p2 : decide (31 < K) = true := by simp; omega
      go_enter Try.func9, Try.ntmps9
      go_wp2_with fail
      with_reducible refine (fshown_any _).mono ?_
      rintro e w1 ⟨rfl, hb1⟩
      go_wp2
      go_ret
      exact ⟨rfl, hb1⟩
    · exact fparts_in A K c rs seq w h hs (by omega) (by omega)
end Go.Proofs.Ytapdlcfaghbjhaa
