/- The law WinFills, walked. -/
import Derived.Test.YtkkkfaelpmmffaaWShown
set_option maxRecDepth 100000
namespace Go.Proofs.Ytkkkfaelpmmffaa
open Go.RowKit
set_option linter.unusedVariables false

/-- What came from number 1 on, up to a bound. -/
def Nice (b : Int) (K : List Item.It) : Prop := Win.right ⟨1, K⟩ = true ∧ ∀ x ∈ K, x.q ≤ b
theorem Nice.nil_ (b : Int) : Nice b [] := ⟨by decide, fun x hx => by cases hx⟩
theorem Nice.len {b : Int} {K : List Item.It} (h : Nice b K) (h0 : 0 ≤ b) : (K.length : Int) ≤ b := by
  have := Win.rises_len (Win.right_iff.1 h.1).2.2 h.2 (by simp only; omega)
  simp only at this
  omega
theorem Nice.put {b : Int} {K : List Item.It} (h : Nice b K) {x : Item.It} (hx : x.q ≤ b) (last : Int) : ∃ L, Win.put ⟨1, K⟩ x last = ⟨1, L⟩ ∧ Nice b L := by
  refine ⟨(Win.put ⟨1, K⟩ x last).l, ?_, ?_⟩
  · have := Win.put_next ⟨1, K⟩ x last
    cases hp : Win.put ⟨1, K⟩ x last with
    | mk a l => rw [hp] at this; simp only at this; rw [this]
  · have e := Win.put_next ⟨1, K⟩ x last
    have hr := Win.right_put x last h.1
    refine ⟨?_, ?_⟩
    · cases hp : Win.put ⟨1, K⟩ x last with
      | mk a l => rw [hp] at e hr; simp only at e; rw [e] at hr; exact hr
    · unfold Win.put
      split
      · intro y hy
        rcases Win.mem_ins.1 hy with rfl | hy
        · exact hx
        · exact h.2 y hy
      · exact h.2
theorem Nice.takes {b : Int} {K : List Item.It} (h : Nice b K) (hb : b ≤ 63) {x : Item.It} {last : Int} (hm : Item.may x = true) (h1 : x.q ≤ last) (hb0 : 0 ≤ b) : Win.takes ⟨1, K⟩ x last = !Win.waits K x.q := by
  have hl := h.len hb0
  have hq := (Win.may_q hm).1
  cases hw : Win.waits K x.q with
  | true =>
    have e : Win.takes ⟨1, K⟩ x last = false := by
      rw [Bool.eq_false_iff]
      intro h
      have h2 := (Win.takes_iff.1 h).2.2
      have h3 : Win.waits K x.q = false := h2
      rw [hw] at h3
      cases h3
    rw [e]; rfl
  | false => rw [Win.takes_iff.2 ⟨⟨hm, hq, h1⟩, by simp only; omega, hw⟩]; rfl
set_option maxRecDepth 100000 in
set_option maxHeartbeats 16000000 in
theorem wfills_any (A : Option Addr) (m c : Nat) (fs : List UInt8) (q : Int) (w : World) (hA : Rd w A m c fs) (hq : 0 ≤ q ∧ q < 256) :
    Calls Try.prog 6 #[.slice A m c, .int .u8 q] w (Yes w) := by
  have hm := hA.le
  have HA := hidT hA
  obtain ⟨hq0, hq1⟩ := hq
  have HQ := hidT (And.intro hq0 hq1)
  clear hA hq0 hq1
  go_enter Try.func6, Try.ntmps6
  go_wp2_with fail
  with_reducible refine (wshown_any _).mono ?_
  rintro e w1 ⟨rfl, hb1⟩
  by_cases h60 : m ≤ 60
  · have t1 : decide (60 < m) = false := by simpa using h60
    have t2 : decide ((60 : Int) < (m : Int)) = false := by simp; omega
    go_wp2_with fail
    with_reducible refine (wnew_any _).mono ?_
    rintro e w2 ⟨rfl, hb2⟩
    have z1 := alloc_at w2 (.cells #[.int .i64 1, .slice none 0 0] 24) _ rfl
    have z3 := nkeep w2 (.cells #[.int .i64 1, .slice none 0 0] 24)
    have hbw := bthen hb1 (bthen hb2 z3)
    have hsz := size_alloc w2 (.cells #[.int .i64 1, .slice none 0 0] 24)
    obtain ⟨g, hg⟩ : ∃ g, w2.heap.size = g := ⟨_, rfl⟩
    rw [hg] at z1 hsz
    have hgw : w.heap.size ≤ g := by have := (bthen hb1 hb2).size; omega
    obtain ⟨W, hW⟩ : ∃ W, w2.alloc (.cells #[.int .i64 1, .slice none 0 0] 24) = W := ⟨_, rfl⟩
    rw [hW] at z1 hbw hsz
    have Z0 := hidT z1
    have HB0 := hidT hbw
    have HW := hidT hW
    have HGW := hidT hgw
    clear z1 z3 hbw hW hb1 hb2 hsz hgw
    go_wp2_with fail
    rw [HW.out]
    clear hg t1 t2
    go_loopw [7] (fun i wr => ∃ (j : Nat) (K : List Item.It) (B : Option Addr) (nl d : Nat), i = .int .i64 j ∧ j ≤ m ∧ Hid (Nice 40 K) ∧
        Hid (wr.heap[g]? = some (.cells #[.int .i64 1, .slice B nl d] 24 (0, 0))) ∧ Hid (FrK wr (g + 1) (.agg #[.int .i64 1, .slice B nl d]) ⟨1, K⟩) ∧ Hid (Below w.heap.size w wr)) (fun i _ => m - (intOf i).toNat)
    case atStart => exact ⟨0, [], none, 0, 0, rfl, Nat.zero_le _, hidT (Nice.nil_ _), hidT Z0.out, hidT (FrK.empty _ _ _), hidT HB0.out⟩
    case round =>
      obtain ⟨j, K, B, nl, d, rfl, hj, HN, XG, XK, XB⟩ := hrel
      have hgs := blk_lt XG.out
      by_cases hjm : j < m
      · obtain ⟨b, o, fb, rfl, hfb, hcell⟩ := HA.out.byte hjm
        have x1 : (0 : Int) ≤ (j : Int) := by omega
        have x2 : (j : Int) < (m : Int) := by omega
        have f0 : (0 : Int) ≤ (fb.toNat : Int) := by omega
        have f1 : (fb.toNat : Int) < 256 := by have := fb.toNat_lt; omega
        have e3 : Int.tmod (fb.toNat : Int) 40 = (fb.toNat : Int) % 40 := Int.tmod_eq_emod_of_nonneg f0
        have e4 : wrap64 (fb.toNat : Int) = (fb.toNat : Int) := IntWalk.wrap64_in _ (by omega)
        obtain ⟨F, hF⟩ : ∃ F, (fb.toNat : Int) % 40 = F := ⟨_, rfl⟩
        have F0 : 0 ≤ F := by omega
        have F1 : F < 40 := by omega
        rw [hF] at e3
        obtain ⟨s, es⟩ : ∃ s, 1 + F = s := ⟨_, rfl⟩
        have s0 : 1 ≤ s := by omega
        have s1 : s ≤ 40 := by omega
        have e5 : IntKind.i64.wrap (fb.toNat : Int) = (fb.toNat : Int) := IntWalk.i64_in _ (by omega)
        have e6 : IntKind.i64.wrap s = s := IntWalk.i64_in _ (by omega)
        have e7 : wrap64 s = s := IntWalk.wrap64_in _ (by omega)
        obtain ⟨PL, hPP, hPN⟩ := HN.out.put (x := Keep.tok s) (show s ≤ 40 from s1) 64
        have HPN := hidT hPN
        obtain ⟨tt, htt⟩ : ∃ tt, Win.takes ⟨1, K⟩ (Keep.tok s) 64 = tt := ⟨_, rfl⟩
        have HPU : Hid (∀ w', Below wr.heap.size wr w' → Calls Try.prog 17 #[.agg #[.int .i64 1, .slice B nl d], .agg #[.int .i64 3, .int .i64 s, .int .i64 0, .int .i64 0, .int .i64 0, .int .i64 0, .slice none 0 0, .slice none 0 0], .int .i64 64] w' (PutIs w' tt ⟨1, PL⟩)) := hidT fun w' hb => by
          have h := wput_right (.agg #[.int .i64 1, .slice B nl d]) (.agg #[.int .i64 3, .int .i64 s, .int .i64 0, .int .i64 0, .int .i64 0, .int .i64 0, .slice none 0 0, .slice none 0 0]) ⟨1, K⟩ (Keep.tok s) 64 w' (XK.out.is.below hb) (IsItem.tokq w' s) HN.out.1 (by simp [Keep.tok])
          rw [hPP, htt] at h
          exact h
        have k0 := fun w' (hb : Below wr.heap.size wr w') => (cells2 (keepH XG.out hb)).1
        have k1 := fun w' (hb : Below wr.heap.size wr w') => (cells2 (keepH XG.out hb)).2
        have kb := fun w' (hb : Below wr.heap.size wr w') => hcell w' (bthen XB.out hb)
        have D1 : Below wr.heap.size wr (wr.alloc (.cells kz 24)) := nkeep wr _
        clear F0 F1 hF f0 f1 hcell hfb hPP hPN htt
        go_wp2_with fail
        go_region_held_law (fun w' => Below wr.heap.size wr w')
          (first | exact (Below.refl _ _).drew | exact Below.refl _ _ | exact hbX | exact hb5 | exact D1.drew | exact D1 | exact nkeep_alloc hb5 _)
          (first
            | (go_at_call 17
               with_reducible refine (HPU.out _ (Below.refl _ _).drew).mono ?_
               rintro e5 w5 ⟨v5, rfl, hK5, hb5'⟩
               have hb5 : Below wr.heap.size wr w5 := undrew hb5'
               obtain ⟨A5, n5, c5, us5, ev5, hr5, ha5, hf5⟩ := id hK5
               have ev5' : v5 = .agg #[.int .i64 1, .slice A5 n5 c5] := ev5
               clear ev5 hr5 ha5 hf5
               subst ev5'
               have TA : True := trivial)
            | (go_at_call 17
               with_reducible refine (HPU.out _ D1.drew).mono ?_
               rintro e5 w5 ⟨v5, rfl, hK5, hb5'⟩
               have hb5 : Below wr.heap.size wr w5 := bthen D1 (undrew hb5')
               have hx3 := keepH (alloc_at wr (.cells kz 24) _ rfl) (undrew hb5')
               obtain ⟨A5, n5, c5, us5, ev5, hr5, ha5, hf5⟩ := id hK5
               have ev5' : v5 = .agg #[.int .i64 1, .slice A5 n5 c5] := ev5
               clear ev5 hr5 ha5 hf5
               subst ev5'
               have f30 := no_frozen hx3 0
               have f31 := no_frozen hx3 1
               obtain ⟨c30, c31⟩ := cells2 hx3
               have hbX : Below wr.heap.size wr ((w5.setCell ⟨wr.heap.size, 0, none⟩ (.int .i64 1)).setCell ⟨wr.heap.size, 1, none⟩ (.slice A5 n5 c5)) := (hb5.setCell (p := ⟨wr.heap.size, 0, none⟩) (Nat.le_refl _) _).setCell (p := ⟨wr.heap.size, 1, none⟩) (Nat.le_refl _) _
               have TB : True := trivial)
            | fail)
        · have P5 := hidT (alloc_at w5 (.cells #[.int .i64 1, .slice A5 n5 c5] 24) _ rfl)
          have K5 := hidT ((hK5.below (nkeep w5 (.cells #[.int .i64 1, .slice A5 n5 c5] 24))).mono (show g + 1 ≤ wr.heap.size by omega))
          have B5 := hidT (nkeep_alloc hb5 (.cells #[.int .i64 1, .slice A5 n5 c5] 24))
          obtain ⟨pv, hpv⟩ : ∃ pv, w5.heap.size = pv := ⟨_, rfl⟩
          rw [hpv] at P5 ⊢
          clear TA hK5 hb5 hb5' hpv D1 k0 k1 kb
          generalize w5.alloc (.cells #[.int .i64 1, .slice A5 n5 c5] 24) = V5 at *
          have yg := keepH XG.out B5.out
          have HB7 := hidT (bthen XB.out B5.out)
          obtain ⟨yc0, yc1⟩ := cells2 P5.out
          go_wp2_with (
            refine wpList_stI rfl 24 _ _ rfl g #[.int .i64 1, .slice A5 n5 c5] rfl rfl _ _ yg wsize2 rfl (by simp [Value.oneCell']) ?_
            intro w8 hg8 hbut hbel)
          exact ⟨⟨j + 1, PL, A5, n5, c5, by go_num, by omega, HPN, hidT hg8, hidT (K5.out.but (by omega) hbut), hidT (hbel _ _ HB7.out HGW.out)⟩, by first | (simp [intOf]; done) | (simp [intOf]; omega)⟩
        · have P5 := hidT (wtwo2 hx3 (.int .i64 1) (.slice A5 n5 c5))
          have K5 := hidT (((hK5.but (show wr.heap.size < (wr.alloc (.cells kz 24)).heap.size by rw [size_alloc]; omega) (But.setCell _ _ 0 (.int .i64 1))).but (show wr.heap.size < (wr.alloc (.cells kz 24)).heap.size by rw [size_alloc]; omega) (But.setCell _ _ 1 (.slice A5 n5 c5))).mono (show g + 1 ≤ (wr.alloc (.cells kz 24)).heap.size by rw [size_alloc]; omega))
          have B5 := hidT hbX
          obtain ⟨pv, hpv⟩ : ∃ pv, wr.heap.size = pv := ⟨_, rfl⟩
          clear TB hK5 hb5 hb5' hx3 D1 k0 k1 kb f30 f31 c30 c31 hbX
          generalize (w5.setCell ⟨wr.heap.size, 0, none⟩ (.int .i64 1)).setCell ⟨wr.heap.size, 1, none⟩ (.slice A5 n5 c5) = V5 at *
          rw [hpv] at P5 ⊢
          clear hpv
          have yg := keepH XG.out B5.out
          have HB7 := hidT (bthen XB.out B5.out)
          obtain ⟨yc0, yc1⟩ := cells2 P5.out
          go_wp2_with (
            refine wpList_stI rfl 24 _ _ rfl g #[.int .i64 1, .slice A5 n5 c5] rfl rfl _ _ yg wsize2 rfl (by simp [Value.oneCell']) ?_
            intro w8 hg8 hbut hbel)
          exact ⟨⟨j + 1, PL, A5, n5, c5, by go_num, by omega, HPN, hidT hg8, hidT (K5.out.but (by omega) hbut), hidT (hbel _ _ HB7.out HGW.out)⟩, by first | (simp [intOf]; done) | (simp [intOf]; omega)⟩
      · have hjm2 : j = m := by omega
        subst hjm2
        obtain ⟨hq0, hq1⟩ := HQ.out
        have e1 : Int.tmod q 41 = q % 41 := Int.tmod_eq_emod_of_nonneg hq0
        have e2 : wrap64 q = q := IntWalk.wrap64_in _ (by omega)
        obtain ⟨t, ht⟩ : ∃ t, q % 41 = t := ⟨_, rfl⟩
        have t0 : 0 ≤ t := by omega
        have t40 : t ≤ 40 := by omega
        rw [ht] at e1
        have HT : Hid (Win.topOf t = t) := hidT (by unfold Win.topOf; rw [if_neg (by omega)])
        clear ht hq0 hq1 hjm
        go_wp2_with fail
        clear e1 e2
        go_loopw [11] (fun i wr => ∃ (j : Nat) (K : List Item.It) (B : Option Addr) (nl d : Nat), i = .int .i64 j ∧ j ≤ 42 ∧ Hid (Nice 40 K) ∧ Hid (∀ s : Int, 1 ≤ s → s ≤ j → s ≤ t → Win.waits K s = true) ∧
            Hid (wr.heap[g]? = some (.cells #[.int .i64 1, .slice B nl d] 24 (0, 0))) ∧ Hid (FrK wr (g + 1) (.agg #[.int .i64 1, .slice B nl d]) ⟨1, K⟩) ∧ Hid (Below w.heap.size w wr)) (fun i _ => 42 - (intOf i).toNat)
        case atStart => exact ⟨0, K, B, nl, d, rfl, by omega, HN, hidT (fun s h1 h2 => absurd h1 (by have : s ≤ 0 := h2; omega)), XG, XK, XB⟩
        case round =>
          clear HN XG XK XB hgs
          obtain ⟨j, K, B, nl, d, rfl, hj, HN, HS, XG, XK, XB⟩ := hrel
          have hgs := blk_lt XG.out
          obtain ⟨i0, i1⟩ := cells2 XG.out
          by_cases hj41 : j ≤ 41
          · have u1 : decide (j ≤ 41) = true := by simpa using hj41
            have u2 : decide ((j : Int) ≤ 41) = true := by simp; omega
            have hga := wgap_any (.agg #[.int .i64 1, .slice B nl d]) ⟨1, K⟩ t wr XK.out.is HN.out.1
            have hri := (Win.right_iff.1 HN.out.1).2.2
            by_cases hlf : Win.lst ⟨1, K⟩ t < Win.fst ⟨1, K⟩
            · rw [Win.gap_none hlf] at hga
              have hall : ∀ s : Int, 1 ≤ s → s ≤ t → Win.waits K s = true := fun s h1 h2 => by
                have h3 := (Win.lst_far hri t).1 hlf
                rw [HT.out] at h3
                have h4 : t < 1 + (Win.run 1 K : Int) := h3
                exact Win.waits_run h1 (by omega)
              have HALL := hidT hall
              clear hall hlf hri
              go_wp2_with fail
              with_reducible refine hga.mono ?_
              rintro e w4 ⟨rfl, hb4⟩
              have YG := hidT (keepH XG.out hb4)
              have YK := hidT (XK.out.below hb4)
              have YB := hidT (bthen XB.out hb4)
              clear hb4 hga i0 i1 XG XK XB HS hj u1 u2 hj41
              go_wp2_with fail
              go_loopw [17] (fun i wr => ∃ (j : Nat) (K : List Item.It) (B : Option Addr) (nl d : Nat), i = .int .i64 ((j : Int) + 1) ∧ (j : Int) ≤ t ∧ Hid (Win.right ⟨(j : Int) + 1, K⟩ = true) ∧ Hid (∀ s : Int, (j : Int) + 1 ≤ s → s ≤ t → Win.waits K s = true) ∧
                  Hid (wr.heap[g]? = some (.cells #[.int .i64 ((j : Int) + 1), .slice B nl d] 24 (0, 0))) ∧ Hid (FrK wr (g + 1) (.agg #[.int .i64 ((j : Int) + 1), .slice B nl d]) ⟨(j : Int) + 1, K⟩) ∧ Hid (Below w.heap.size w wr)) (fun i _ => (t + 1 - intOf i).toNat)
              case atStart => exact ⟨0, K, B, nl, d, rfl, t0, hidT HN.out.1, hidT (fun s h1 h2 => HALL.out s (by simpa using h1) h2), YG, YK, YB⟩
              case round =>
                clear HN HALL YG YK YB hgs
                obtain ⟨j, K, B, nl, d, rfl, hj, HR, HALL, XG, XK, XB⟩ := hrel
                have hgs := blk_lt XG.out
                obtain ⟨i0, i1⟩ := cells2 XG.out
                by_cases hjt : (j : Int) + 1 ≤ t
                · have u1 : decide ((j : Int) + 1 ≤ t) = true := by simpa using hjt
                  have u2 : decide ((j : Int) < t) = true := by rw [decide_eq_true_eq]; omega
                  have hri := (Win.right_iff.1 HR.out).2.2
                  have hwn := Win.waits_next hri
                  rw [show Win.waits (⟨(j : Int) + 1, K⟩ : Keep.Kp).l (⟨(j : Int) + 1, K⟩ : Keep.Kp).next = true from HALL.out ((j : Int) + 1) (Int.le_refl _) hjt] at hwn
                  have htk := wtake_any (.agg #[.int .i64 ((j : Int) + 1), .slice B nl d]) ⟨(j : Int) + 1, K⟩ wr XK.out.is HR.out (right_small HR.out)
                  have hrt := Win.right_take HR.out
                  rcases Option.eq_none_or_eq_some (Win.peek ⟨(j : Int) + 1, K⟩) with hp | ⟨y, hp⟩
                  · rw [hp] at hwn; cases hwn
                  · obtain ⟨r, el, eq, etk⟩ := Win.peek_some hp
                    have el' : K = y :: r := el
                    have eq' : y.q = (j : Int) + 1 := eq
                    have etk' : Win.take ⟨(j : Int) + 1, K⟩ = ⟨(j : Int) + 1 + 1, r⟩ := etk
                    rw [hp, etk'] at htk
                    rw [etk'] at hrt
                    have HRT := hidT hrt
                    have HWR : Hid (∀ s : Int, ((j + 1 : Nat) : Int) + 1 ≤ s → s ≤ t → Win.waits r s = true) := hidT fun s h1 h2 => by
                      have h3 := HALL.out s (by push_cast at h1; omega) h2
                      rw [el'] at h3
                      obtain ⟨z, hz, hq⟩ := Win.waits_iff.1 h3
                      rcases List.mem_cons.1 hz with rfl | hz
                      · push_cast at h1; omega
                      · exact Win.waits_iff.2 ⟨z, hz, hq⟩
                    have v1 : (y.q != (j : Int) + 1) = false := by simpa using eq'
                    have w1' : wrap64 ((j : Int) + 1 + 1) = (j : Int) + 1 + 1 := IntWalk.wrap64_in _ (by omega)
                    have w2' : IntKind.i64.wrap ((j : Int) + 1 + 1) = (j : Int) + 1 + 1 := IntWalk.i64_in _ (by omega)
                    clear hp hwn hri el eq etk el' eq' etk' hrt
                    go_wp2_with fail
                    with_reducible refine htk.mono ?_
                    rintro e w5 ⟨u5, v5, rfl, hI5, hK5, hb5⟩
                    obtain ⟨LA5, ln5, lc5, BA5, bn5, bc5, eu5, hl5, hbb5, hla5, hba5⟩ := id hI5
                    have eu5' : u5 = .agg #[.int .i64 y.k, .int .i64 y.q, .int .i64 y.e, .int .i64 y.i, .int .i64 y.t, .int .i64 y.c, .slice LA5 ln5 lc5, .slice BA5 bn5 bc5] := eu5
                    clear eu5 hl5 hbb5 hla5 hba5
                    subst eu5'
                    obtain ⟨A5, n5, c5, us5, ev5, hr5, ha5, hf5⟩ := id hK5
                    have ev5' : v5 = .agg #[.int .i64 ((j : Int) + 1 + 1), .slice A5 n5 c5] := ev5
                    clear ev5 hr5 ha5 hf5
                    subst ev5'
                    obtain ⟨t1, t2, t3⟩ := two_alloc w5 (.cells #[.int .i64 y.k, .int .i64 y.q, .int .i64 y.e, .int .i64 y.i, .int .i64 y.t, .int .i64 y.c, .slice LA5 ln5 lc5, .slice BA5 bn5 bc5] 28) (.cells #[.int .i64 ((j : Int) + 1 + 1), .slice A5 n5 c5] 24)
                    have hb57 := bthen hb5 t3
                    have yg := keepH XG.out hb57
                    have K5 := hidT ((hK5.below t3).mono (show g + 1 ≤ wr.heap.size by omega))
                    have B5 := hidT (bthen XB.out hb57)
                    obtain ⟨yc0, yc1⟩ := cells2 t2
                    have l1 := (cells8 t1).2.1
                    clear t1 t2 t3 hb57 hb5 hK5 hI5 htk i0 i1
                    go_wp2_with (
                      refine wpList_stI rfl 24 _ _ rfl g #[.int .i64 ((j : Int) + 1 + 1), .slice A5 n5 c5] rfl rfl _ _ yg wsize2 rfl (by simp [Value.oneCell']) ?_
                      intro w8 hg8 hbut hbel)
                    exact ⟨⟨j + 1, r, A5, n5, c5, by first | rfl | go_num, by push_cast; omega, HRT, HWR, hidT hg8, hidT (K5.out.but (by omega) hbut), hidT (hbel _ _ B5.out HGW.out)⟩, by simp [intOf]; omega⟩
                · have u1 : decide ((j : Int) + 1 ≤ t) = false := by simpa using hjt
                  have u2 : decide ((j : Int) < t) = false := by rw [decide_eq_false_iff_not]; omega
                  go_wp2
                  go_ret
                  exact ⟨rfl, XB.out⟩
            · have hfl : Win.fst ⟨1, K⟩ ≤ Win.lst ⟨1, K⟩ t := by omega
              rw [Win.gap_some hfl] at hga
              have hmp := Win.many_pos hfl
              have hlt := Win.lst_le ⟨1, K⟩ t
              rw [HT.out] at hlt
              have hff := Win.fst_free hri
              have hfr : ∀ i : Nat, (i : Int) < Win.many ⟨1, K⟩ t → Win.fst ⟨1, K⟩ + i ≤ t ∧ Win.waits K (Win.fst ⟨1, K⟩ + i) = false := fun i hi => by
                have h1 := (Win.many_more hri hfl (n := i) (by omega)).1 hi
                rw [HT.out] at h1
                exact ⟨h1.2.1, h1.2.2⟩
              have hf1 := (Win.fst_low HN.out.1).1
              have hrun : ∀ s : Int, 1 ≤ s → s < Win.fst ⟨1, K⟩ → Win.waits K s = true := fun s h1 h2 => Win.waits_run h1 h2
              obtain ⟨lo, hlo⟩ : ∃ lo, Win.fst ⟨1, K⟩ = lo := ⟨_, rfl⟩
              obtain ⟨mn, hmn⟩ : ∃ mn, Win.many ⟨1, K⟩ t = mn := ⟨_, rfl⟩
              rw [hlo] at hff hfr hf1 hrun hga
              rw [hmn] at hmp hfr hga
              obtain ⟨hm1, hm64⟩ := hmp
              have hlo40 : lo ≤ 40 := by have := (hfr 0 (by omega)).1; omega
              have hga' : Calls Try.prog 23 #[.agg #[.int .i64 1, .slice B nl d], .int .i64 t] wr (fun e w' => e = .returned (.tuple #[.int .i64 lo, .int .i64 mn]) ∧ Below wr.heap.size wr w') := hga
              have HFF := hidT hff
              have HFR := hidT hfr
              have HRUN := hidT hrun
              have HNK := HN
              have HSK := HS
              have v1 : (mn == 0) = false := by simp; omega
              clear hfl hlf hlt hff hfr hrun hlo hmn hri hga
              go_wp2_with fail
              with_reducible refine hga'.mono ?_
              rintro e w4 ⟨rfl, hb4⟩
              have YG := hidT (keepH XG.out hb4)
              have YK := hidT (XK.out.below hb4)
              have YB := hidT (bthen XB.out hb4)
              clear hb4 hga' i0 i1 XG XK XB
              go_wp2_with fail
              clear v1 u1 u2
              go_loopw [14] (fun i wr => ∃ (kk : Nat) (K' : List Item.It) (B : Option Addr) (nl d : Nat), i = .int .i64 kk ∧ (kk : Int) ≤ mn ∧ Hid (Nice 40 K') ∧ Hid (∀ s : Int, Win.waits K' s = (Win.waits K s || (decide (lo ≤ s) && decide (s < lo + kk)))) ∧
                  Hid (wr.heap[g]? = some (.cells #[.int .i64 1, .slice B nl d] 24 (0, 0))) ∧ Hid (FrK wr (g + 1) (.agg #[.int .i64 1, .slice B nl d]) ⟨1, K'⟩) ∧ Hid (Below w.heap.size w wr)) (fun i _ => mn.toNat - (intOf i).toNat)
              case atStart => exact ⟨0, K, B, nl, d, rfl, by omega, HN, hidT (fun s => by
                rw [show (decide (lo ≤ s) && decide (s < lo + ((0 : Nat) : Int))) = false from by rw [Bool.and_eq_false_iff, decide_eq_false_iff_not, decide_eq_false_iff_not]; omega, Bool.or_false]), YG, YK, YB⟩
              case round =>
                clear HN HS YG YK YB hgs
                obtain ⟨kk, K', B, nl, d, rfl, hkk, HN, HW', XG, XK, XB⟩ := hrel
                have hgs := blk_lt XG.out
                obtain ⟨i0, i1⟩ := cells2 XG.out
                by_cases hkm : (kk : Int) < mn
                · have u1 : decide ((kk : Int) < mn) = true := by simpa using hkm
                  have u2 : decide ((kk : Int) < 64) = true := by rw [decide_eq_true_eq]; omega
                  have u3 : decide (kk < 64) = true := by rw [decide_eq_true_eq]; omega
                  obtain ⟨h1, h2⟩ := HFR.out kk hkm
                  obtain ⟨s, hs⟩ : ∃ s, lo + (kk : Int) = s := ⟨_, rfl⟩
                  have hnw : Win.waits K' s = false := by
                    rw [HW'.out s, ← hs, h2, Bool.false_or, Bool.and_eq_false_iff, decide_eq_false_iff_not, decide_eq_false_iff_not]; omega
                  rw [hs] at h1
                  have s0 : 1 ≤ s := by omega
                  have s1 : s ≤ 40 := by omega
                  obtain ⟨PL, hPP, hPN⟩ := HN.out.put (x := Keep.tok s) (show s ≤ 40 from s1) 64
                  have htk : Win.takes ⟨1, K'⟩ (Keep.tok s) 64 = true := by
                    rw [HN.out.takes (by omega) (Keep.may_tok s0 (by omega)) (show s ≤ 64 by omega) (by omega)]
                    show (!Win.waits K' s) = true
                    rw [hnw]; rfl
                  have hPL : PL = Win.ins K' (Keep.tok s) := by
                    have e := hPP
                    rw [Win.put_yes htk] at e
                    injection e with _ e
                    exact e.symm
                  have HPW : Hid (∀ s' : Int, Win.waits PL s' = (Win.waits K s' || (decide (lo ≤ s') && decide (s' < lo + ((kk + 1 : Nat) : Int))))) := hidT fun s' => by
                    rw [hPL, Win.waits_ins, HW'.out s']
                    show (decide (s = s') || _) = _
                    by_cases h : s = s'
                    · rw [show decide (s = s') = true from by simpa using h, Bool.true_or, show (decide (lo ≤ s') && decide (s' < lo + ((kk + 1 : Nat) : Int))) = true from by rw [Bool.and_eq_true, decide_eq_true_eq, decide_eq_true_eq]; push_cast; omega, Bool.or_true]
                    · rw [show decide (s = s') = false from by simpa using h, Bool.false_or]
                      congr 2
                      rw [decide_eq_decide]; push_cast; omega
                  have hpu := wput_right (.agg #[.int .i64 1, .slice B nl d]) (.agg #[.int .i64 3, .int .i64 s, .int .i64 0, .int .i64 0, .int .i64 0, .int .i64 0, .slice none 0 0, .slice none 0 0]) ⟨1, K'⟩ (Keep.tok s) 64 wr XK.out.is (IsItem.tokq wr s) HN.out.1 (by simp [Keep.tok])
                  rw [hPP, htk] at hpu
                  have HPN := hidT hPN
                  have w1' : wrap64 (lo + (kk : Int)) = s := by rw [hs]; exact IntWalk.wrap64_in _ (by omega)
                  have w2' : IntKind.i64.wrap (lo + (kk : Int)) = s := by rw [hs]; exact IntWalk.i64_in _ (by omega)
                  clear hPP hPN htk hPL hnw h1 h2
                  go_wp2_with fail
                  clear w1' w2' hs i0 i1
                  with_reducible refine hpu.mono ?_
                  rintro e w5 ⟨v5, rfl, hK5, hb5⟩
                  obtain ⟨A5, n5, c5, us5, ev5, hr5, ha5, hf5⟩ := id hK5
                  have ev5' : v5 = .agg #[.int .i64 1, .slice A5 n5 c5] := ev5
                  clear ev5 hr5 ha5 hf5
                  subst ev5'
                  have t1 := alloc_at w5 (.cells #[.int .i64 1, .slice A5 n5 c5] 24) _ rfl
                  have t3 := nkeep w5 (.cells #[.int .i64 1, .slice A5 n5 c5] 24)
                  have hb57 := bthen hb5 t3
                  have yg := keepH XG.out hb57
                  have K5 := hidT ((hK5.below t3).mono (show g + 1 ≤ wr.heap.size by omega))
                  have B5 := hidT (bthen XB.out hb57)
                  obtain ⟨yc0, yc1⟩ := cells2 t1
                  clear t1 t3 hb57 hb5 hK5 hpu
                  go_wp2_with (
                    refine wpList_stI rfl 24 _ _ rfl g #[.int .i64 1, .slice A5 n5 c5] rfl rfl _ _ yg wsize2 rfl (by simp [Value.oneCell']) ?_
                    intro w8 hg8 hbut hbel)
                  exact ⟨⟨kk + 1, PL, A5, n5, c5, by go_num, by push_cast; omega, HPN, HPW, hidT hg8, hidT (K5.out.but (by omega) hbut), hidT (hbel _ _ B5.out HGW.out)⟩, by simp [intOf]; omega⟩
                · have u1 : decide ((kk : Int) < mn) = false := by simpa using hkm
                  have hke : mn = (kk : Int) := by omega
                  have HSS : Hid (∀ s : Int, 1 ≤ s → s ≤ ((j + 1 : Nat) : Int) → s ≤ t → Win.waits K' s = true) := hidT fun s h1 h2 h3 => by
                    rw [HW'.out s]
                    by_cases h4 : s ≤ (j : Int)
                    · rw [HSK.out s h1 h4 h3, Bool.true_or]
                    · by_cases h5 : s < lo
                      · rw [HRUN.out s h1 h5, Bool.true_or]
                      · have h6 : ¬ lo ≤ (j : Int) := fun h => by
                          have h7 := HSK.out lo (by omega) h (by omega)
                          rw [HFF.out] at h7
                          cases h7
                        rw [show (decide (lo ≤ s) && decide (s < lo + (kk : Int))) = true from by rw [Bool.and_eq_true, decide_eq_true_eq, decide_eq_true_eq]; push_cast at h2; omega, Bool.or_true]
                  clear HW' hkm i0 i1
                  go_wp2
                  exact ⟨⟨j + 1, K', B, nl, d, by go_num, by omega, HN, HSS, XG, XK, XB⟩, by simp [intOf]; omega⟩
          · have u1 : decide (j ≤ 41) = false := by simpa using hj41
            have u2 : decide ((j : Int) ≤ 41) = false := by simp; omega
            have HALL : Hid (∀ s : Int, 1 ≤ s → s ≤ t → Win.waits K s = true) := hidT fun s h1 h2 => HS.out s h1 (by omega) h2
            have YG := XG
            have YK := XK
            have YB := XB
            clear i0 i1 HS hj XG XK XB
            go_wp2_with fail
            clear u1 u2 hj41
            go_loopw [17] (fun i wr => ∃ (j : Nat) (K : List Item.It) (B : Option Addr) (nl d : Nat), i = .int .i64 ((j : Int) + 1) ∧ (j : Int) ≤ t ∧ Hid (Win.right ⟨(j : Int) + 1, K⟩ = true) ∧ Hid (∀ s : Int, (j : Int) + 1 ≤ s → s ≤ t → Win.waits K s = true) ∧
                Hid (wr.heap[g]? = some (.cells #[.int .i64 ((j : Int) + 1), .slice B nl d] 24 (0, 0))) ∧ Hid (FrK wr (g + 1) (.agg #[.int .i64 ((j : Int) + 1), .slice B nl d]) ⟨(j : Int) + 1, K⟩) ∧ Hid (Below w.heap.size w wr)) (fun i _ => (t + 1 - intOf i).toNat)
            case atStart => exact ⟨0, K, B, nl, d, rfl, t0, hidT HN.out.1, hidT (fun s h1 h2 => HALL.out s (by simpa using h1) h2), YG, YK, YB⟩
            case round =>
              clear HN HALL YG YK YB hgs
              obtain ⟨j, K, B, nl, d, rfl, hj, HR, HALL, XG, XK, XB⟩ := hrel
              have hgs := blk_lt XG.out
              obtain ⟨i0, i1⟩ := cells2 XG.out
              by_cases hjt : (j : Int) + 1 ≤ t
              · have u1 : decide ((j : Int) + 1 ≤ t) = true := by simpa using hjt
                have u2 : decide ((j : Int) < t) = true := by rw [decide_eq_true_eq]; omega
                have hri := (Win.right_iff.1 HR.out).2.2
                have hwn := Win.waits_next hri
                rw [show Win.waits (⟨(j : Int) + 1, K⟩ : Keep.Kp).l (⟨(j : Int) + 1, K⟩ : Keep.Kp).next = true from HALL.out ((j : Int) + 1) (Int.le_refl _) hjt] at hwn
                have htk := wtake_any (.agg #[.int .i64 ((j : Int) + 1), .slice B nl d]) ⟨(j : Int) + 1, K⟩ wr XK.out.is HR.out (right_small HR.out)
                have hrt := Win.right_take HR.out
                rcases Option.eq_none_or_eq_some (Win.peek ⟨(j : Int) + 1, K⟩) with hp | ⟨y, hp⟩
                · rw [hp] at hwn; cases hwn
                · obtain ⟨r, el, eq, etk⟩ := Win.peek_some hp
                  have el' : K = y :: r := el
                  have eq' : y.q = (j : Int) + 1 := eq
                  have etk' : Win.take ⟨(j : Int) + 1, K⟩ = ⟨(j : Int) + 1 + 1, r⟩ := etk
                  rw [hp, etk'] at htk
                  rw [etk'] at hrt
                  have HRT := hidT hrt
                  have HWR : Hid (∀ s : Int, ((j + 1 : Nat) : Int) + 1 ≤ s → s ≤ t → Win.waits r s = true) := hidT fun s h1 h2 => by
                    have h3 := HALL.out s (by push_cast at h1; omega) h2
                    rw [el'] at h3
                    obtain ⟨z, hz, hq⟩ := Win.waits_iff.1 h3
                    rcases List.mem_cons.1 hz with rfl | hz
                    · push_cast at h1; omega
                    · exact Win.waits_iff.2 ⟨z, hz, hq⟩
                  have v1 : (y.q != (j : Int) + 1) = false := by simpa using eq'
                  have w1' : wrap64 ((j : Int) + 1 + 1) = (j : Int) + 1 + 1 := IntWalk.wrap64_in _ (by omega)
                  have w2' : IntKind.i64.wrap ((j : Int) + 1 + 1) = (j : Int) + 1 + 1 := IntWalk.i64_in _ (by omega)
                  clear hp hwn hri el eq etk el' eq' etk' hrt
                  go_wp2_with fail
                  with_reducible refine htk.mono ?_
                  rintro e w5 ⟨u5, v5, rfl, hI5, hK5, hb5⟩
                  obtain ⟨LA5, ln5, lc5, BA5, bn5, bc5, eu5, hl5, hbb5, hla5, hba5⟩ := id hI5
                  have eu5' : u5 = .agg #[.int .i64 y.k, .int .i64 y.q, .int .i64 y.e, .int .i64 y.i, .int .i64 y.t, .int .i64 y.c, .slice LA5 ln5 lc5, .slice BA5 bn5 bc5] := eu5
                  clear eu5 hl5 hbb5 hla5 hba5
                  subst eu5'
                  obtain ⟨A5, n5, c5, us5, ev5, hr5, ha5, hf5⟩ := id hK5
                  have ev5' : v5 = .agg #[.int .i64 ((j : Int) + 1 + 1), .slice A5 n5 c5] := ev5
                  clear ev5 hr5 ha5 hf5
                  subst ev5'
                  obtain ⟨t1, t2, t3⟩ := two_alloc w5 (.cells #[.int .i64 y.k, .int .i64 y.q, .int .i64 y.e, .int .i64 y.i, .int .i64 y.t, .int .i64 y.c, .slice LA5 ln5 lc5, .slice BA5 bn5 bc5] 28) (.cells #[.int .i64 ((j : Int) + 1 + 1), .slice A5 n5 c5] 24)
                  have hb57 := bthen hb5 t3
                  have yg := keepH XG.out hb57
                  have K5 := hidT ((hK5.below t3).mono (show g + 1 ≤ wr.heap.size by omega))
                  have B5 := hidT (bthen XB.out hb57)
                  obtain ⟨yc0, yc1⟩ := cells2 t2
                  have l1 := (cells8 t1).2.1
                  clear t1 t2 t3 hb57 hb5 hK5 hI5 htk i0 i1
                  go_wp2_with (
                    refine wpList_stI rfl 24 _ _ rfl g #[.int .i64 ((j : Int) + 1 + 1), .slice A5 n5 c5] rfl rfl _ _ yg wsize2 rfl (by simp [Value.oneCell']) ?_
                    intro w8 hg8 hbut hbel)
                  exact ⟨⟨j + 1, r, A5, n5, c5, by first | rfl | go_num, by push_cast; omega, HRT, HWR, hidT hg8, hidT (K5.out.but (by omega) hbut), hidT (hbel _ _ B5.out HGW.out)⟩, by simp [intOf]; omega⟩
              · have u1 : decide ((j : Int) + 1 ≤ t) = false := by simpa using hjt
                have u2 : decide ((j : Int) < t) = false := by rw [decide_eq_false_iff_not]; omega
                go_wp2
                go_ret
                exact ⟨rfl, XB.out⟩
  · have t1 : decide (60 < m) = true := by simp; omega
    have t2 : decide ((60 : Int) < (m : Int)) = true := by simp; omega
    go_wp2
    go_ret
    exact ⟨rfl, hb1⟩
end Go.Proofs.Ytkkkfaelpmmffaa
