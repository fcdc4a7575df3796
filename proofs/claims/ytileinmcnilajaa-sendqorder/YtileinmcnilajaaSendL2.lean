/- The law SendqOrder, walked. -/
import Derived.Test.YtileinmcnilajaaSendShown
import Derived.BigQuiet
import Derived.Deep.QuietTactic
import Derived.Deep.RegionHeld3
set_option maxRecDepth 100000
namespace Go.Proofs.Ytileinmcnilajaa
open Go.RowKit
set_option linter.unusedVariables false

theorem cells4 {w : World} {g : Nat} {a0 a1 a2 a3 : Value} {t : TypeId} (h : w.heap[g]? = some (.cells #[a0, a1, a2, a3] t (0, 0))) : w.cell? ⟨g, 0, none⟩ = some a0 ∧ w.cell? ⟨g, 1, none⟩ = some a1 ∧ w.cell? ⟨g, 2, none⟩ = some a2 ∧ w.cell? ⟨g, 3, none⟩ = some a3 :=
  ⟨cell_at h 0 rfl, cell_at h 1 rfl, cell_at h 2 rfl, cell_at h 3 rfl⟩
theorem short_of {w : World} {A : Option Addr} {n c : Nat} {rs wl : List Bw} (h : RdB w A n c rs) (hm : ∀ r ∈ wl, r ∈ rs ∧ r.n ≤ 100) : ∀ l ∈ wl.map Bw.b, l.length ≤ 4000 := by
  intro l hl
  obtain ⟨r, hr, rfl⟩ := List.mem_map.1 hl
  rw [h.long (hm r hr).1]
  have := (hm r hr).2
  omega
theorem OfferIs.open_ {w w' : World} {ls : List (List UInt8)} {k : Int} {e : Ending} (h : OfferIs w ls k e w') (n : Nat) (hn : ls.length = n) : ∃ A c rs, e = .returned (.tuple #[.slice A n c, .int .i64 k]) ∧ OwnV w' w.heap.size 23 (.slice A n c) n (rs.map Bw.val) ∧ OwnB w' w.heap.size rs ∧ rs.map Bw.b = ls ∧ Below w.heap.size w w' := by
  obtain ⟨A, m, c, rs, rfl, hr, hob, hl, hb⟩ := h
  have h1 := OwnV.size hr
  rw [List.length_map] at h1
  have h2 := congrArg List.length hl
  rw [List.length_map] at h2
  obtain rfl : m = n := by omega
  exact ⟨A, c, rs, rfl, hr, hob, hl, hb⟩
/-- A row of newer blocks stays while one in an elder block is grown. -/
theorem OwnV.far {w w' : World} {row : Option Nat} {base n : Nat} {e : TypeId} {v : Value} {l : List Value} (h : OwnV w base e v n l) (hg : w.grownBy w' row) (hr : ∀ k, row = some k → k < base) : OwnV w' base e v n l := by
  refine World.ownsRow.kept h hg ?_
  cases hv : v.ownBlock with
  | none => exact .inl rfl
  | some k =>
    refine .inr fun he => ?_
    have h1 := hr k he.symm
    have h2 := (World.ownsRow.lt h k hv).1
    omega
theorem OwnB.far {w w' : World} {row : Option Nat} {base : Nat} {rs : List Bw} (h : OwnB w base rs) (hg : w.grownBy w' row) (hr : ∀ k, row = some k → k < base) : OwnB w' base rs := fun r hx => OwnV.far (h r hx) hg hr

set_option maxHeartbeats 16000000 in
theorem order_a (A : Option Addr) (n c : Nat) (rs : List Bw) (P : Option Addr) (pn pc : Nat) (ps : List Bool) (room most : Int) (w : World) (hq : RdB w A n c rs) (hp0 : RdV w P pn pc (bos ps)) (r0 : 0 ≤ room) (r1 : room < 256) (m0 : 0 ≤ most) (m1 : most < 256) (h2 : 100 < n) : Calls Try.prog 4 #[.agg #[.slice A n c, .slice P pn pc, .int .u8 room, .int .u8 most]] w (Yes w) := by
  have q2 : decide ((100 : Int) < (n : Int)) = true := by simp; omega
  have q3 : decide (100 < n) = true := by simp; omega
  clear h2
  obtain ⟨i0, i1, i2, i3⟩ := cells4 (alloc_at w (.cells #[.slice A n c, .slice P pn pc, .int .u8 room, .int .u8 most] 41) _ rfl)
  have t3 := nkeep w (.cells #[.slice A n c, .slice P pn pc, .int .u8 room, .int .u8 most] 41)
  obtain ⟨W, hW⟩ : ∃ W, w.alloc (.cells #[.slice A n c, .slice P pn pc, .int .u8 room, .int .u8 most] 41) = W := ⟨_, rfl⟩
  rw [hW] at t3
  have HW := hidT hW
  have HQ := hidT hq
  have HPP := hidT hp0
  have B_0 := hidT (Below.refl w.heap.size w)
  have B_1 := hidT (bthen B_0.out t3)
  clear B_0
  clear hq hp0 t3 hW
  go_enter Try.func4, Try.ntmps4
  have hp := sshown_any W
  go_wp2_with fail
  rw [HW.out]
  clear i0 i1 i2 i3
  with_reducible refine hp.mono ?_
  rintro e w1 ⟨rfl, hw⟩
  have B_2 := hidT (bthen B_1.out hw)
  clear B_1
  clear hp hw
  go_wp2
  go_ret
  exact ⟨rfl, B_2.out⟩
set_option maxHeartbeats 16000000 in
theorem order_b (A : Option Addr) (n c : Nat) (rs : List Bw) (P : Option Addr) (pn pc : Nat) (ps : List Bool) (room most : Int) (w : World) (hq : RdB w A n c rs) (hp0 : RdV w P pn pc (bos ps)) (r0 : 0 ≤ room) (r1 : room < 256) (m0 : 0 ≤ most) (m1 : most < 256) (h2 : n ≤ 100) (h3 : pn ≠ n) : Calls Try.prog 4 #[.agg #[.slice A n c, .slice P pn pc, .int .u8 room, .int .u8 most]] w (Yes w) := by
  have q2 : decide ((100 : Int) < (n : Int)) = false := by simp; omega
  have q3 : decide (100 < n) = false := by simp; omega
  have q4 : ((pn : Int) != (n : Int)) = true := by simp; omega
  have q5 : ((pn : Int) == (n : Int)) = false := by simp; omega
  have q6 : (pn == n) = false := by simpa using h3
  have q7 : (pn != n) = true := by simpa using h3
  clear h2 h3
  obtain ⟨i0, i1, i2, i3⟩ := cells4 (alloc_at w (.cells #[.slice A n c, .slice P pn pc, .int .u8 room, .int .u8 most] 41) _ rfl)
  have t3 := nkeep w (.cells #[.slice A n c, .slice P pn pc, .int .u8 room, .int .u8 most] 41)
  obtain ⟨W, hW⟩ : ∃ W, w.alloc (.cells #[.slice A n c, .slice P pn pc, .int .u8 room, .int .u8 most] 41) = W := ⟨_, rfl⟩
  rw [hW] at t3
  have HW := hidT hW
  have HQ := hidT hq
  have HPP := hidT hp0
  have B_0 := hidT (Below.refl w.heap.size w)
  have B_1 := hidT (bthen B_0.out t3)
  clear B_0
  clear hq hp0 t3 hW
  go_enter Try.func4, Try.ntmps4
  have hp := sshown_any W
  go_wp2_with fail
  rw [HW.out]
  clear i0 i1 i2 i3
  with_reducible refine hp.mono ?_
  rintro e w1 ⟨rfl, hw⟩
  have B_2 := hidT (bthen B_1.out hw)
  clear B_1
  clear hp hw
  go_wp2
  go_ret
  exact ⟨rfl, B_2.out⟩
set_option maxHeartbeats 16000000 in
theorem order_c (A : Option Addr) (n c : Nat) (rs : List Bw) (P : Option Addr) (pc : Nat) (ps : List Bool) (room most : Int) (w : World) (hq : RdB w A n c rs) (hp0 : RdV w P n pc (bos ps)) (r0 : 0 ≤ room) (r1 : room < 256) (m0 : 0 ≤ most) (m1 : most < 256) (h2 : n ≤ 100) : Calls Try.prog 4 #[.agg #[.slice A n c, .slice P n pc, .int .u8 room, .int .u8 most]] w (Yes w) := by
  obtain ⟨N, hN, hN20⟩ : ∃ N : Nat, room % 20 = (N : Int) ∧ N < 20 := ⟨(room % 20).toNat, by omega, by omega⟩
  have u1 : room.tmod 20 = (N : Int) := by rw [Int.tmod_eq_emod_of_nonneg r0]; exact hN
  obtain ⟨M, hM, hM60⟩ : ∃ M : Nat, most % 60 = (M : Int) ∧ M < 60 := ⟨(most % 60).toNat, by omega, by omega⟩
  have u2 : most.tmod 60 = (M : Int) := by rw [Int.tmod_eq_emod_of_nonneg m0]; exact hM
  clear hN hM
  have q2 : decide ((100 : Int) < (n : Int)) = false := by simp; omega
  have q3 : decide (100 < n) = false := by simp; omega
  have HS := hidT hq.size
  obtain ⟨i0, i1, i2, i3⟩ := cells4 (alloc_at w (.cells #[.slice A n c, .slice P n pc, .int .u8 room, .int .u8 most] 41) _ rfl)
  have t3 := nkeep w (.cells #[.slice A n c, .slice P n pc, .int .u8 room, .int .u8 most] 41)
  obtain ⟨W, hW⟩ : ∃ W, w.alloc (.cells #[.slice A n c, .slice P n pc, .int .u8 room, .int .u8 most] 41) = W := ⟨_, rfl⟩
  rw [hW] at t3
  have HW := hidT hW
  have HQ := hidT hq
  have HPP := hidT hp0
  have B_0 := hidT (Below.refl w.heap.size w)
  have B_1 := hidT (bthen B_0.out t3)
  clear B_0
  clear hq hp0 t3 hW
  go_enter Try.func4, Try.ntmps4
  have hp := sshown_any W
  go_wp2_with fail
  rw [HW.out]
  clear i0 i1 i2 i3
  with_reducible refine hp.mono ?_
  rintro e w1 ⟨rfl, hw⟩
  have B_2 := hidT (bthen B_1.out hw)
  clear B_1
  clear hp hw
  go_wp2
  clear q2 q3 u1 u2
  go_loopw [10, 11, 12] (fun v u i wr => ∃ (j J : Nat) (Aq : Option Addr) (cq : Nat) (xs : List Bw) (Aw : Option Addr) (cw : Nat) (wl : List Bw), j ≤ n ∧ J ≤ N ∧ i = .int .i64 j ∧ v = .slice Aq J cq ∧ u = .slice Aw J cw ∧ Hid (RdB wr Aq J cq xs) ∧ Hid (OwnO wr w.heap.size 23 (.slice Aw J cw) J (wl.map Bw.val)) ∧ Hid (∀ r ∈ wl, r ∈ rs ∧ r.n ≤ 100) ∧ Hid (xs.map Bw.b = wl.map Bw.b) ∧ Hid (Below w.heap.size w wr)) (fun _ _ i _ => n - (intOf i).toNat)
  case atStart => exact ⟨0, 0, none, 0, [], none, 0, [], Nat.zero_le _, Nat.zero_le _, rfl, rfl, rfl, hidT (RdB.nil_ _), hidT (OwnO.nil_ _ _ _), hidT (fun r hr => by cases hr), hidT rfl, hidT B_2.out⟩
  case round =>
    obtain ⟨j, J, Aq, cq, xs, Aw, cw, wl, hj, hJ, rfl, rfl, rfl, HR, HO, HM, HX, HB⟩ := hrel
    by_cases hjn : j < n
    · obtain ⟨b, o, r, rfl, hrr, hrd, hc⟩ := HQ.out.at_ hjn
      obtain ⟨pb, po, pu, rfl, hpu, hpc⟩ := HPP.out.at_ hjn
      obtain ⟨pt, rfl⟩ : ∃ t, pu = .bool t := by
        simp only [bos, List.getElem?_map, Option.map_eq_some_iff] at hpu
        obtain ⟨t, _, rfl⟩ := hpu
        exact ⟨t, rfl⟩
      have HPC : Hid (∀ w', Below w.heap.size w w' → w'.cell? ⟨pb, po + j, none⟩ = some (.bool pt)) := hidT fun w' hb => (hb.cell (World.block_lt_of_cell? _ _ hpc)).trans hpc
      have HC := hidT hc
      have HRR := hidT (List.mem_of_getElem? hrr)
      have HRD := hidT hrd
      have k1 := hc wr HB.out
      have q4 : (0 : Int) ≤ (j : Int) := by omega
      have q5 : (j : Int) < (n : Int) := by omega
      clear hpu hpc hc hrr hrd
      by_cases h100 : r.n ≤ 100
      · have q6 : decide ((100 : Int) < (r.n : Int)) = false := by simp; omega
        have q6' : decide (100 < r.n) = false := by simp; omega
        have HN := hidT h100
        have HF : Hid (Few xs) := hidT (few_of HR.out (by omega) (by rw [HX.out]; exact short_of HQ.out HM.out))
        by_cases hlong : M < r.n
        · skip
          have v1 : decide ((M : Int) < (r.n : Int)) = true := by simp <;> omega
          have v1' : decide (M < r.n) = true := by simp <;> omega
          have v2 : decide ((r.n : Int) ≤ (M : Int)) = false := by simp <;> omega
          have v2' : decide (r.n ≤ M) = false := by simp <;> omega
          have hk : offC J r.n (N : Int) (M : Int) = 5 := by unfold offC; rw [if_pos (by omega)]
          have hp := offer_any Aq J cq xs r.A r.n r.c r.b (N : Int) (M : Int) wr HR.out HF.out (HRD.out.below HB.out) (by omega) 5 hk (wl.map Bw.b) (by rw [HX.out]; rfl)
          have HLN : Hid ((wl.map Bw.b).length = J) := hidT (by have h1 := HO.out.1; rw [List.length_map] at h1; simp [h1])
          clear hk
          go_wp2_with fail
          with_reducible refine hp.mono ?_
          intro e w4 hG
          obtain ⟨A4, c4, x4, rfl, ho4, hob4, hl4, hw4⟩ := OfferIs.open_ hG (J) HLN.out
          have HO4 := hidT ho4
          have HOB4 := hidT hob4
          have X4 := hidT hl4
          have B4 := hidT (bthen HB.out hw4)
          have W4 := hidT hw4
          have OO4 := hidT (HO.out.later hw4)
          clear hp hG ho4 hob4 hl4 hw4 k1
          have k4 := HC.out w4 B4.out
          have W5e : ∃ W5, W5 = w4 := ⟨_, rfl⟩
          obtain ⟨W5, rfl⟩ := W5e
          have R5 := hidT (OwnV.rdb HO4.out HOB4.out)
          have O5 := OO4
          have B5 := B4
          have M5 := HM
          have X5 : Hid (x4.map Bw.b = wl.map Bw.b) := X4
          have k5 := HPC.out W5 B5.out
          clear HO4 HOB4
          cases pt
          · skip
            have t1 : decide ((N : Int) < (J : Int)) = false := by simp <;> omega
            have t1' : decide (N < J) = false := by simp <;> omega
            go_wp2
            exact ⟨⟨j + 1, J, A4, c4, x4, Aw, cw, wl, by omega, by omega, by go_num, rfl, rfl, R5, O5, M5, X5, B5⟩, by simp [intOf] <;> omega⟩
          · rcases Nat.eq_zero_or_pos J with hJ0 | hJ0
            · subst hJ0
              have HF5 : Hid (Few x4) := hidT (few_of R5.out (by omega) (by rw [X5.out]; exact short_of HQ.out M5.out))
              have hp := (head_any A4 0 c4 x4 W5 R5.out HF5.out false rfl).1
              go_wp2_with fail
              with_reducible refine hp.mono ?_
              rintro e w6 ⟨A6, n6, c6, rfl, hr6, hw6⟩
              have R6 := hidT (R5.out.below hw6)
              have B6 := hidT (bthen B5.out hw6)
              have O6 := hidT (O5.out.later hw6)
              clear hp hr6 hw6
              have hp := (pop_any A4 0 c4 x4 w6 R6.out HF5.out false rfl).1
              have hx4 : x4 = [] := List.eq_nil_of_length_eq_zero R5.out.size
              have HX4 := hidT hx4
              clear hx4
              go_wp2_with fail
              with_reducible refine hp.mono ?_
              intro e w7 hG
              obtain ⟨A7, c7, x7, rfl, hr7, hl7, hw7⟩ := PopIs.open_ hG 0 (by rw [HX4.out]; rfl)
              have R7 := hidT hr7
              have L7 := hidT hl7
              have B7 := hidT (bthen B6.out hw7)
              have O7 := hidT (O6.out.later hw7)
              clear hp hG hr7 hl7 hw7
              go_wp2_with fail
              go_quiet (fail)
              have BX := drawn_below w7 nq
              generalize w7.drewN nq = W8 at BX ⊢
              have t1 : decide ((N : Int) < (0 : Int)) = false := by simp <;> omega
              have t1' : decide (N < 0) = false := by simp <;> omega
              go_wp2
              exact ⟨⟨j + 1, 0, A7, c7, x7, Aw, cw, wl, by omega, by omega, by go_num, rfl, rfl, hidT (R7.out.below BX), hidT (O7.out.later BX), M5, hidT (by rw [L7.out, HX4.out, ← X5.out, HX4.out]; rfl), hidT (bthen B7.out BX)⟩, by simp [intOf] <;> omega⟩
            · obtain ⟨K, rfl⟩ : ∃ K, J = K + 1 := ⟨J - 1, by omega⟩
              have HF5 : Hid (Few x4) := hidT (few_of R5.out (by omega) (by rw [X5.out]; exact short_of HQ.out M5.out))
              obtain ⟨y, yl, HWL⟩ : ∃ y yl, Hid (wl = y :: yl) := by
                have h1 := O5.out.1
                rw [List.length_map] at h1
                cases h : wl with
                | nil => rw [h] at h1; simp at h1
                | cons y yl => exact ⟨y, yl, hidT rfl⟩
              have OW5 : Hid (OwnO W5 w.heap.size 23 (.slice Aw (K + 1) cw) (K + 1) (y.val :: yl.map Bw.val)) := hidT (by have := O5.out; rwa [HWL.out] at this)
              have XW5 : Hid (x4.map Bw.b = y.b :: yl.map Bw.b) := hidT (by rw [X5.out, HWL.out]; rfl)
              have MW5 := M5.out y (by rw [HWL.out]; exact List.mem_cons_self ..)
              have HYM := hidT MW5
              clear MW5
              have hp := (head_any A4 (K + 1) c4 x4 W5 R5.out HF5.out true (by simp)).1
              rw [hd_of XW5.out] at hp
              go_wp2_with fail
              with_reducible refine hp.mono ?_
              intro e w6 hG
              obtain ⟨A6, n6, c6, rfl, hr6, hw6⟩ := id hG
              have R6 := hidT (R5.out.below hw6)
              have S6 := hidT hr6
              have B6 := hidT (bthen B5.out hw6)
              have O6 := hidT (OW5.out.later hw6)
              clear hp hG hr6 hw6
              have hp := (pop_any A4 (K + 1) c4 x4 w6 R6.out HF5.out true (by simp)).1
              rw [drop_of XW5.out] at hp
              have HYL : Hid ((List.drop 1 (y.b :: yl.map Bw.b)).length = K) := hidT (by have h1 := OW5.out.1; simp only [List.length_cons, List.length_map] at h1; simp; omega)
              go_wp2_with fail
              with_reducible refine hp.mono ?_
              intro e w7 hG
              obtain ⟨A7, c7, x7, rfl, hr7, hl7, hw7⟩ := PopIs.open_ hG K HYL.out
              have R7 := hidT hr7
              have L7 := hidT hl7
              have B7 := hidT (bthen B6.out hw7)
              have O7 := hidT (O6.out.later hw7)
              have S7 := hidT (S6.out.below hw7)
              clear hp hG hr7 hl7 hw7
              obtain ⟨gw, gwo, gu, hA, hgu, hgc⟩ := O7.out.same.at_ (k := 0) (by omega)
              subst hA
              simp only [List.getElem?_cons_zero, Option.some.injEq] at hgu
              subst hgu
              rw [Nat.add_zero] at hgc
              have hyr := (HQ.out.2 y HYM.out.1).below B7.out
              have s1 := strs S7.out
              have s2 := strs hyr
              have s3 : ((str (List.headD (y.b :: yl.map Bw.b) [])).toList == (str y.b).toList) = true := str_same rfl
              have hgc' : ∀ w', Below w7.heap.size w7 w' → w'.cell? ⟨gw, gwo, none⟩ = some (.slice y.A y.n y.c) := fun w' hb => (hb.cell (World.block_lt_of_cell? _ _ hgc)).trans hgc
              clear hgc hyr
              have z1 : decide ((0 : Int) < ((K + 1 : Nat) : Int)) = true := by simp
              have z2 : decide ((0 : Int) < (K : Int) + 1) = true := by simp <;> omega
              have z3 : (0 : Int) < (K : Int) + 1 := by omega
              have z4 : 0 < K + 1 := by omega
              go_wp2_with fail
              go_region_held (fun w' => Below w7.heap.size w7 w') (first | exact (Below.refl _ _).drew | exact Below.refl _ _) (fail)
              all_goals
                have BX : Below w7.heap.size w7 w7.drew := (Below.refl _ _).drew
                generalize w7.drew = W8 at BX ⊢
                clear s1 s2 s3 hgc'
                obtain ⟨Q, hQ⟩ : ∃ Q, (if cw = 1 then some (⟨gw, gwo, none⟩ : Addr) else some ⟨gw, gwo + 1, none⟩) = Q := ⟨_, rfl⟩
                have ht := OwnO.tail (O7.out.later BX) Q hQ
                have HTT := hidT ht
                have hnc := O7.out.same.2.1
                have hcap := O7.out.same.2.2.1
                unfold maxLen at hcap
                have p1 : (1 : Int) ≤ (K : Int) + 1 := by omega
                have p2 : (K : Int) + 1 ≤ (cw : Int) := by omega
                have p3 : IntKind.i64.wrap 1 = 1 := rfl
                clear ht
                have t1 : decide ((N : Int) < (K : Int)) = false := by simp <;> omega
                have t1' : decide (N < K) = false := by simp <;> omega
                go_wp2
                exact ⟨⟨j + 1, K, A7, c7, x7, Q, cw - 1, yl, by omega, by omega, by go_num, rfl, rfl, hidT (R7.out.below BX), HTT, hidT (fun r hr => M5.out r (by rw [HWL.out]; exact List.mem_cons_of_mem _ hr)), hidT (by rw [L7.out]; rfl), hidT (bthen B7.out BX)⟩, by simp [intOf] <;> omega⟩
        · by_cases hfull : N ≤ J
          · skip
            have v1 : decide ((M : Int) < (r.n : Int)) = false := by simp <;> omega
            have v1' : decide (M < r.n) = false := by simp <;> omega
            have v2 : decide ((r.n : Int) ≤ (M : Int)) = true := by simp <;> omega
            have v2' : decide (r.n ≤ M) = true := by simp <;> omega
            have v3 : decide ((J : Int) < (N : Int)) = false := by simp <;> omega
            have v3' : decide (J < N) = false := by simp <;> omega
            have hk : offC J r.n (N : Int) (M : Int) = 4 := by unfold offC; rw [if_neg (by omega), if_pos (by omega)]
            have hp := offer_any Aq J cq xs r.A r.n r.c r.b (N : Int) (M : Int) wr HR.out HF.out (HRD.out.below HB.out) (by omega) 4 hk (wl.map Bw.b) (by rw [HX.out]; rfl)
            have HLN : Hid ((wl.map Bw.b).length = J) := hidT (by have h1 := HO.out.1; rw [List.length_map] at h1; simp [h1])
            clear hk
            go_wp2_with fail
            with_reducible refine hp.mono ?_
            intro e w4 hG
            obtain ⟨A4, c4, x4, rfl, ho4, hob4, hl4, hw4⟩ := OfferIs.open_ hG (J) HLN.out
            have HO4 := hidT ho4
            have HOB4 := hidT hob4
            have X4 := hidT hl4
            have B4 := hidT (bthen HB.out hw4)
            have W4 := hidT hw4
            have OO4 := hidT (HO.out.later hw4)
            clear hp hG ho4 hob4 hl4 hw4 k1
            have k4 := HC.out w4 B4.out
            have W5e : ∃ W5, W5 = w4 := ⟨_, rfl⟩
            obtain ⟨W5, rfl⟩ := W5e
            have R5 := hidT (OwnV.rdb HO4.out HOB4.out)
            have O5 := OO4
            have B5 := B4
            have M5 := HM
            have X5 : Hid (x4.map Bw.b = wl.map Bw.b) := X4
            have k5 := HPC.out W5 B5.out
            clear HO4 HOB4
            cases pt
            · skip
              have t1 : decide ((N : Int) < (J : Int)) = false := by simp <;> omega
              have t1' : decide (N < J) = false := by simp <;> omega
              go_wp2
              exact ⟨⟨j + 1, J, A4, c4, x4, Aw, cw, wl, by omega, by omega, by go_num, rfl, rfl, R5, O5, M5, X5, B5⟩, by simp [intOf] <;> omega⟩
            · rcases Nat.eq_zero_or_pos J with hJ0 | hJ0
              · subst hJ0
                have HF5 : Hid (Few x4) := hidT (few_of R5.out (by omega) (by rw [X5.out]; exact short_of HQ.out M5.out))
                have hp := (head_any A4 0 c4 x4 W5 R5.out HF5.out false rfl).1
                go_wp2_with fail
                with_reducible refine hp.mono ?_
                rintro e w6 ⟨A6, n6, c6, rfl, hr6, hw6⟩
                have R6 := hidT (R5.out.below hw6)
                have B6 := hidT (bthen B5.out hw6)
                have O6 := hidT (O5.out.later hw6)
                clear hp hr6 hw6
                have hp := (pop_any A4 0 c4 x4 w6 R6.out HF5.out false rfl).1
                have hx4 : x4 = [] := List.eq_nil_of_length_eq_zero R5.out.size
                have HX4 := hidT hx4
                clear hx4
                go_wp2_with fail
                with_reducible refine hp.mono ?_
                intro e w7 hG
                obtain ⟨A7, c7, x7, rfl, hr7, hl7, hw7⟩ := PopIs.open_ hG 0 (by rw [HX4.out]; rfl)
                have R7 := hidT hr7
                have L7 := hidT hl7
                have B7 := hidT (bthen B6.out hw7)
                have O7 := hidT (O6.out.later hw7)
                clear hp hG hr7 hl7 hw7
                go_wp2_with fail
                go_quiet (fail)
                have BX := drawn_below w7 nq
                generalize w7.drewN nq = W8 at BX ⊢
                have t1 : decide ((N : Int) < (0 : Int)) = false := by simp <;> omega
                have t1' : decide (N < 0) = false := by simp <;> omega
                go_wp2
                exact ⟨⟨j + 1, 0, A7, c7, x7, Aw, cw, wl, by omega, by omega, by go_num, rfl, rfl, hidT (R7.out.below BX), hidT (O7.out.later BX), M5, hidT (by rw [L7.out, HX4.out, ← X5.out, HX4.out]; rfl), hidT (bthen B7.out BX)⟩, by simp [intOf] <;> omega⟩
              · obtain ⟨K, rfl⟩ : ∃ K, J = K + 1 := ⟨J - 1, by omega⟩
                have HF5 : Hid (Few x4) := hidT (few_of R5.out (by omega) (by rw [X5.out]; exact short_of HQ.out M5.out))
                obtain ⟨y, yl, HWL⟩ : ∃ y yl, Hid (wl = y :: yl) := by
                  have h1 := O5.out.1
                  rw [List.length_map] at h1
                  cases h : wl with
                  | nil => rw [h] at h1; simp at h1
                  | cons y yl => exact ⟨y, yl, hidT rfl⟩
                have OW5 : Hid (OwnO W5 w.heap.size 23 (.slice Aw (K + 1) cw) (K + 1) (y.val :: yl.map Bw.val)) := hidT (by have := O5.out; rwa [HWL.out] at this)
                have XW5 : Hid (x4.map Bw.b = y.b :: yl.map Bw.b) := hidT (by rw [X5.out, HWL.out]; rfl)
                have MW5 := M5.out y (by rw [HWL.out]; exact List.mem_cons_self ..)
                have HYM := hidT MW5
                clear MW5
                have hp := (head_any A4 (K + 1) c4 x4 W5 R5.out HF5.out true (by simp)).1
                rw [hd_of XW5.out] at hp
                go_wp2_with fail
                with_reducible refine hp.mono ?_
                intro e w6 hG
                obtain ⟨A6, n6, c6, rfl, hr6, hw6⟩ := id hG
                have R6 := hidT (R5.out.below hw6)
                have S6 := hidT hr6
                have B6 := hidT (bthen B5.out hw6)
                have O6 := hidT (OW5.out.later hw6)
                clear hp hG hr6 hw6
                have hp := (pop_any A4 (K + 1) c4 x4 w6 R6.out HF5.out true (by simp)).1
                rw [drop_of XW5.out] at hp
                have HYL : Hid ((List.drop 1 (y.b :: yl.map Bw.b)).length = K) := hidT (by have h1 := OW5.out.1; simp only [List.length_cons, List.length_map] at h1; simp; omega)
                go_wp2_with fail
                with_reducible refine hp.mono ?_
                intro e w7 hG
                obtain ⟨A7, c7, x7, rfl, hr7, hl7, hw7⟩ := PopIs.open_ hG K HYL.out
                have R7 := hidT hr7
                have L7 := hidT hl7
                have B7 := hidT (bthen B6.out hw7)
                have O7 := hidT (O6.out.later hw7)
                have S7 := hidT (S6.out.below hw7)
                clear hp hG hr7 hl7 hw7
                obtain ⟨gw, gwo, gu, hA, hgu, hgc⟩ := O7.out.same.at_ (k := 0) (by omega)
                subst hA
                simp only [List.getElem?_cons_zero, Option.some.injEq] at hgu
                subst hgu
                rw [Nat.add_zero] at hgc
                have hyr := (HQ.out.2 y HYM.out.1).below B7.out
                have s1 := strs S7.out
                have s2 := strs hyr
                have s3 : ((str (List.headD (y.b :: yl.map Bw.b) [])).toList == (str y.b).toList) = true := str_same rfl
                have hgc' : ∀ w', Below w7.heap.size w7 w' → w'.cell? ⟨gw, gwo, none⟩ = some (.slice y.A y.n y.c) := fun w' hb => (hb.cell (World.block_lt_of_cell? _ _ hgc)).trans hgc
                clear hgc hyr
                have z1 : decide ((0 : Int) < ((K + 1 : Nat) : Int)) = true := by simp
                have z2 : decide ((0 : Int) < (K : Int) + 1) = true := by simp <;> omega
                have z3 : (0 : Int) < (K : Int) + 1 := by omega
                have z4 : 0 < K + 1 := by omega
                go_wp2_with fail
                go_region_held (fun w' => Below w7.heap.size w7 w') (first | exact (Below.refl _ _).drew | exact Below.refl _ _) (fail)
                all_goals
                  have BX : Below w7.heap.size w7 w7.drew := (Below.refl _ _).drew
                  generalize w7.drew = W8 at BX ⊢
                  clear s1 s2 s3 hgc'
                  obtain ⟨Q, hQ⟩ : ∃ Q, (if cw = 1 then some (⟨gw, gwo, none⟩ : Addr) else some ⟨gw, gwo + 1, none⟩) = Q := ⟨_, rfl⟩
                  have ht := OwnO.tail (O7.out.later BX) Q hQ
                  have HTT := hidT ht
                  have hnc := O7.out.same.2.1
                  have hcap := O7.out.same.2.2.1
                  unfold maxLen at hcap
                  have p1 : (1 : Int) ≤ (K : Int) + 1 := by omega
                  have p2 : (K : Int) + 1 ≤ (cw : Int) := by omega
                  have p3 : IntKind.i64.wrap 1 = 1 := rfl
                  clear ht
                  have t1 : decide ((N : Int) < (K : Int)) = false := by simp <;> omega
                  have t1' : decide (N < K) = false := by simp <;> omega
                  go_wp2
                  exact ⟨⟨j + 1, K, A7, c7, x7, Q, cw - 1, yl, by omega, by omega, by go_num, rfl, rfl, hidT (R7.out.below BX), HTT, hidT (fun r hr => M5.out r (by rw [HWL.out]; exact List.mem_cons_of_mem _ hr)), hidT (by rw [L7.out]; rfl), hidT (bthen B7.out BX)⟩, by simp [intOf] <;> omega⟩
          · skip
            have v1 : decide ((M : Int) < (r.n : Int)) = false := by simp <;> omega
            have v1' : decide (M < r.n) = false := by simp <;> omega
            have v2 : decide ((r.n : Int) ≤ (M : Int)) = true := by simp <;> omega
            have v2' : decide (r.n ≤ M) = true := by simp <;> omega
            have v3 : decide ((J : Int) < (N : Int)) = true := by simp <;> omega
            have v3' : decide (J < N) = true := by simp <;> omega
            have hk : offC J r.n (N : Int) (M : Int) = 0 := by unfold offC; rw [if_neg (by omega), if_neg (by omega)]
            have hp := offer_any Aq J cq xs r.A r.n r.c r.b (N : Int) (M : Int) wr HR.out HF.out (HRD.out.below HB.out) (by omega) 0 hk (wl.map Bw.b ++ [r.b]) (by rw [HX.out]; rfl)
            have HLN : Hid ((wl.map Bw.b ++ [r.b]).length = J + 1) := hidT (by have h1 := HO.out.1; rw [List.length_map] at h1; simp [h1])
            clear hk
            go_wp2_with fail
            with_reducible refine hp.mono ?_
            intro e w4 hG
            obtain ⟨A4, c4, x4, rfl, ho4, hob4, hl4, hw4⟩ := OfferIs.open_ hG (J + 1) HLN.out
            have HO4 := hidT ho4
            have HOB4 := hidT hob4
            have X4 := hidT hl4
            have B4 := hidT (bthen HB.out hw4)
            have W4 := hidT hw4
            have OO4 := hidT (HO.out.later hw4)
            clear hp hG ho4 hob4 hl4 hw4 k1
            have k4 := HC.out w4 B4.out
            skip
            cases pt
            · skip
              have arm_ok : True := trivial
              skip
              have t1 : decide ((N : Int) < (J : Int) + 1) = false := by simp; omega
              have t1' : decide (N < J + 1) = false := by simp; omega
              have t2 : decide ((N : Int) < ((J + 1 : Nat) : Int)) = false := by simp; omega
              go_wp2_with (
                at_builtin
                refine wpList_appO rfl (.tmp 99) (.tmp 104) 22 rfl w.heap.size 23 (.slice none 0 0) 24 infoS rfl (by omega) Try.underlying22 (.slice Aw J cw) J (wl.map Bw.val) rfl ?own ⟨w4.heap.size, 0, none⟩ (.slice r.A r.n r.c) rfl ?rd rfl ?h63 ?hb ?_
                case own => exact OO4.out.later (nkeep _ _)
                case rd => exact cells1 (alloc_at _ _ _ rfl)
                case h63 => omega
                case hb => rw [size_alloc]; have := B4.out.size; omega
                intro v5 W5 hown hgrow
                have B4' := bthen B4.out (nkeep w4 (.cells #[.slice r.A r.n r.c] 23))
                have O5 : Hid (OwnO W5 w.heap.size 23 v5 (J + 1) ((wl ++ [r]).map Bw.val)) := hidT (by rw [List.map_append]; exact hown)
                have hfar : ∀ k, (Value.slice Aw J cw).ownBlock = some k → k < wr.heap.size := fun k hk => (HO.out.block k hk).2
                have B5 := hidT (Below.grown B4' hgrow B4'.size (fun k hk => ((OO4.out.later (nkeep w4 (.cells #[.slice r.A r.n r.c] 23))).block k hk).1))
                have R5 := hidT (OwnV.rdb (OwnV.far (OwnV.later HO4.out (nkeep w4 (.cells #[.slice r.A r.n r.c] 23))) hgrow hfar) (OwnB.far (HOB4.out.later (nkeep w4 (.cells #[.slice r.A r.n r.c] 23))) hgrow hfar))
                obtain ⟨Aw5, cw5, rfl, hrv⟩ := O5.out.rd
                have k5 := HPC.out W5 B5.out
                clear hown hgrow hfar B4' hrv)
              have X5 : Hid (x4.map Bw.b = (wl ++ [r]).map Bw.b) := hidT (by rw [X4.out, List.map_append]; rfl)
              have M5 : Hid (∀ s ∈ wl ++ [r], s ∈ rs ∧ s.n ≤ 100) := hidT (by
                intro s hs
                rcases List.mem_append.1 hs with hs | hs
                · exact HM.out s hs
                · rw [List.mem_singleton] at hs
                  subst hs
                  exact ⟨HRR.out, HN.out⟩)
              exact ⟨⟨j + 1, J + 1, A4, c4, x4, Aw5, cw5, wl ++ [r], by omega, by omega, by go_num, rfl, rfl, R5, O5, M5, X5, B5⟩, by simp [intOf] <;> omega⟩
            · skip
              have arm_ok : True := trivial
              skip
              go_wp2_with (
                at_builtin
                refine wpList_appO rfl (.tmp 99) (.tmp 104) 22 rfl w.heap.size 23 (.slice none 0 0) 24 infoS rfl (by omega) Try.underlying22 (.slice Aw J cw) J (wl.map Bw.val) rfl ?own ⟨w4.heap.size, 0, none⟩ (.slice r.A r.n r.c) rfl ?rd rfl ?h63 ?hb ?_
                case own => exact OO4.out.later (nkeep _ _)
                case rd => exact cells1 (alloc_at _ _ _ rfl)
                case h63 => omega
                case hb => rw [size_alloc]; have := B4.out.size; omega
                intro v5 W5 hown hgrow
                have B4' := bthen B4.out (nkeep w4 (.cells #[.slice r.A r.n r.c] 23))
                have O5 : Hid (OwnO W5 w.heap.size 23 v5 (J + 1) ((wl ++ [r]).map Bw.val)) := hidT (by rw [List.map_append]; exact hown)
                have hfar : ∀ k, (Value.slice Aw J cw).ownBlock = some k → k < wr.heap.size := fun k hk => (HO.out.block k hk).2
                have B5 := hidT (Below.grown B4' hgrow B4'.size (fun k hk => ((OO4.out.later (nkeep w4 (.cells #[.slice r.A r.n r.c] 23))).block k hk).1))
                have R5 := hidT (OwnV.rdb (OwnV.far (OwnV.later HO4.out (nkeep w4 (.cells #[.slice r.A r.n r.c] 23))) hgrow hfar) (OwnB.far (HOB4.out.later (nkeep w4 (.cells #[.slice r.A r.n r.c] 23))) hgrow hfar))
                obtain ⟨Aw5, cw5, rfl, hrv⟩ := O5.out.rd
                have k5 := HPC.out W5 B5.out
                clear hown hgrow hfar B4' hrv)
              have X5 : Hid (x4.map Bw.b = (wl ++ [r]).map Bw.b) := hidT (by rw [X4.out, List.map_append]; rfl)
              have M5 : Hid (∀ s ∈ wl ++ [r], s ∈ rs ∧ s.n ≤ 100) := hidT (by
                intro s hs
                rcases List.mem_append.1 hs with hs | hs
                · exact HM.out s hs
                · rw [List.mem_singleton] at hs
                  subst hs
                  exact ⟨HRR.out, HN.out⟩)
              have HF5 : Hid (Few x4) := hidT (few_of R5.out (by omega) (by rw [X5.out]; exact short_of HQ.out M5.out))
              obtain ⟨y, yl, HWL⟩ : ∃ y yl, Hid ((wl ++ [r]) = y :: yl) := by
                have h1 := O5.out.1
                rw [List.length_map] at h1
                cases h : (wl ++ [r]) with
                | nil => rw [h] at h1; simp at h1
                | cons y yl => exact ⟨y, yl, hidT rfl⟩
              have OW5 : Hid (OwnO W5 w.heap.size 23 (.slice Aw5 (J + 1) cw5) (J + 1) (y.val :: yl.map Bw.val)) := hidT (by have := O5.out; rwa [HWL.out] at this)
              have XW5 : Hid (x4.map Bw.b = y.b :: yl.map Bw.b) := hidT (by rw [X5.out, HWL.out]; rfl)
              have MW5 := M5.out y (by rw [HWL.out]; exact List.mem_cons_self ..)
              have HYM := hidT MW5
              clear MW5
              have hp := (head_any A4 (J + 1) c4 x4 W5 R5.out HF5.out true (by simp)).1
              rw [hd_of XW5.out] at hp
              with_reducible refine hp.mono ?_
              intro e w6 hG
              obtain ⟨A6, n6, c6, rfl, hr6, hw6⟩ := id hG
              have R6 := hidT (R5.out.below hw6)
              have S6 := hidT hr6
              have B6 := hidT (bthen B5.out hw6)
              have O6 := hidT (OW5.out.later hw6)
              clear hp hG hr6 hw6
              have hp := (pop_any A4 (J + 1) c4 x4 w6 R6.out HF5.out true (by simp)).1
              rw [drop_of XW5.out] at hp
              have HYL : Hid ((List.drop 1 (y.b :: yl.map Bw.b)).length = J) := hidT (by have h1 := OW5.out.1; simp only [List.length_cons, List.length_map] at h1; simp; omega)
              go_wp2_with fail
              with_reducible refine hp.mono ?_
              intro e w7 hG
              obtain ⟨A7, c7, x7, rfl, hr7, hl7, hw7⟩ := PopIs.open_ hG J HYL.out
              have R7 := hidT hr7
              have L7 := hidT hl7
              have B7 := hidT (bthen B6.out hw7)
              have O7 := hidT (O6.out.later hw7)
              have S7 := hidT (S6.out.below hw7)
              clear hp hG hr7 hl7 hw7
              obtain ⟨gw, gwo, gu, hA, hgu, hgc⟩ := O7.out.same.at_ (k := 0) (by omega)
              subst hA
              simp only [List.getElem?_cons_zero, Option.some.injEq] at hgu
              subst hgu
              rw [Nat.add_zero] at hgc
              have hyr := (HQ.out.2 y HYM.out.1).below B7.out
              have s1 := strs S7.out
              have s2 := strs hyr
              have s3 : ((str (List.headD (y.b :: yl.map Bw.b) [])).toList == (str y.b).toList) = true := str_same rfl
              have hgc' : ∀ w', Below w7.heap.size w7 w' → w'.cell? ⟨gw, gwo, none⟩ = some (.slice y.A y.n y.c) := fun w' hb => (hb.cell (World.block_lt_of_cell? _ _ hgc)).trans hgc
              clear hgc hyr
              have z1 : decide ((0 : Int) < ((J + 1 : Nat) : Int)) = true := by simp
              have z2 : decide ((0 : Int) < (J : Int) + 1) = true := by simp <;> omega
              have z3 : (0 : Int) < (J : Int) + 1 := by omega
              have z4 : 0 < J + 1 := by omega
              go_wp2_with fail
              go_region_held (fun w' => Below w7.heap.size w7 w') (first | exact (Below.refl _ _).drew | exact Below.refl _ _) (fail)
              all_goals
                have BX : Below w7.heap.size w7 w7.drew := (Below.refl _ _).drew
                generalize w7.drew = W8 at BX ⊢
                clear s1 s2 s3 hgc'
                obtain ⟨Q, hQ⟩ : ∃ Q, (if cw5 = 1 then some (⟨gw, gwo, none⟩ : Addr) else some ⟨gw, gwo + 1, none⟩) = Q := ⟨_, rfl⟩
                have ht := OwnO.tail (O7.out.later BX) Q hQ
                have HTT := hidT ht
                have hnc := O7.out.same.2.1
                have hcap := O7.out.same.2.2.1
                unfold maxLen at hcap
                have p1 : (1 : Int) ≤ (J : Int) + 1 := by omega
                have p2 : (J : Int) + 1 ≤ (cw5 : Int) := by omega
                have p3 : IntKind.i64.wrap 1 = 1 := rfl
                clear ht
                have t1 : decide ((N : Int) < (J : Int)) = false := by simp <;> omega
                have t1' : decide (N < J) = false := by simp <;> omega
                go_wp2
                exact ⟨⟨j + 1, J, A7, c7, x7, Q, cw5 - 1, yl, by omega, by omega, by go_num, rfl, rfl, hidT (R7.out.below BX), HTT, hidT (fun r hr => M5.out r (by rw [HWL.out]; exact List.mem_cons_of_mem _ hr)), hidT (by rw [L7.out]; rfl), hidT (bthen B7.out BX)⟩, by simp [intOf] <;> omega⟩
      · have q6 : decide ((100 : Int) < (r.n : Int)) = true := by simp; omega
        have q6' : decide (100 < r.n) = true := by simp; omega
        go_wp2
        go_ret
        exact ⟨rfl, HB.out⟩
    · obtain rfl : j = n := by omega
      have hw2 : RdB wr Aw J cw wl := ⟨HO.out.same, fun r hr => (HQ.out.2 r (HM.out r hr).1).below HB.out⟩
      have hp := rssame_any Aq J cq xs Aw J cw wl wr HR.out hw2 true (by rw [HX.out]; simp)
      clear hw2
      go_wp2_with fail
      with_reducible refine hp.mono ?_
      rintro e w5 ⟨rfl, hw5⟩
      have B5 := hidT (bthen HB.out hw5)
      clear hp hw5
      go_wp2
      go_ret
      exact ⟨rfl, B5.out⟩
theorem sorder_any (A : Option Addr) (n c : Nat) (rs : List Bw) (P : Option Addr) (pn pc : Nat) (ps : List Bool) (room most : Int) (w : World) (hq : RdB w A n c rs) (hp0 : RdV w P pn pc (bos ps)) (r0 : 0 ≤ room) (r1 : room < 256) (m0 : 0 ≤ most) (m1 : most < 256) : Calls Try.prog 4 #[.agg #[.slice A n c, .slice P pn pc, .int .u8 room, .int .u8 most]] w (Yes w) := by
  by_cases h2 : 100 < n
  · exact order_a A n c rs P pn pc ps room most w hq hp0 r0 r1 m0 m1 h2
  · by_cases h3 : pn = n
    · subst h3
      exact order_c A pn c rs P pc ps room most w hq hp0 r0 r1 m0 m1 (by omega)
    · exact order_b A n c rs P pn pc ps room most w hq hp0 r0 r1 m0 m1 (by omega) h3
end Go.Proofs.Ytileinmcnilajaa
