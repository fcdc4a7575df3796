/- The law FragTwo, walked. (Written by wip/gen/fragl6.py.) -/
import Derived.Test.YtapdlcfaghbjhaaFragL2
import Derived.Test.YtapdlcfaghbjhaaFragL4
import Derived.Test.YtapdlcfaghbjhaaFragO
set_option maxRecDepth 100000
namespace Go.Proofs.Ytapdlcfaghbjhaa
open Go.RowKit
set_option linter.unusedVariables false

theorem Rd.any0 {w : World} {A : Option Addr} {n c : Nat} (h : Rd w A n c []) (w' : World) : Rd w' A n c [] := ⟨h.1, h.2.1, h.2.2.1, h.2.2.2.1, fun h0 => absurd h.1 (by simp; omega)⟩
theorem blockV_apart {w0 w w' : World} {g base k : Nat} {e : TypeId} {v : Value} {xs : List Value} {ob : Obj} (h : w.heap[g]? = some ob) (hg0 : w0.heap.size ≤ g ∨ g < base) (ho : OwnV w0 base e v k xs) (hg : w.grownBy w' v.ownBlock) : w'.heap[g]? = some ob := by
  refine (hg.block g (blk_lt h) ?_).trans h
  intro hb
  have h6 := World.ownsRow.lt ho g hb.symm
  omega
theorem fits_late {p : Pt} {j K : Nat} (h : p.got = (j : Int)) : fits p ((j : Int) + 1) (K : Int) = false := by
  unfold fits
  have : decide ((j : Int) + 1 = p.got) = false := by simp; omega
  rw [this]
  simp
theorem manyN_32 {n m : Nat} (hm : 1 ≤ m) (h : n ≤ 32 * m) : manyN n m ≤ 32 := by
  unfold manyN
  split
  · omega
  · have : (n - 1) / m < 32 := (Nat.div_lt_iff_lt_mul (by omega)).2 (by omega)
    omega

theorem ftwo_o1 (A0 : Option Addr) (n0 c0 : Nat) (A1 : Option Addr) (n1 c1 : Nat) (t m : Nat) (w : World) (l0 : n0 ≤ 9223372036854775807) (l1 : n1 ≤ 9223372036854775807) (ht : t < 256) (hm : m = 1 + t % 60) (h : 32 * m < n0) :
    Calls Try.prog 8 #[.slice A0 n0 c0, .slice A1 n1 c1, .int .u8 (t : Int)] w (Yes w) := by
  have z1 : (t : Int).tmod 60 = ((t % 60 : Nat) : Int) := by rw [Int.tmod_eq_emod_of_nonneg (by omega)]; omega
  have z1' : (t : Int) % 60 = ((t % 60 : Nat) : Int) := by omega
  have z2 : 1 + ((t % 60 : Nat) : Int) = (m : Int) := by omega
  have hm1 : 1 ≤ m := by omega
  have hm2 : m ≤ 60 := by omega
  have q1 : decide (32 * (m : Int) < (n0 : Int)) = true := by simp; omega
  clear hm
  generalize t % 60 = t60 at z1 z1' z2
  go_enter Try.func8, Try.ntmps8
  go_wp2_with fail
  with_reducible refine (fshown_any _).mono ?_
  rintro e w1 ⟨rfl, hb1⟩
  go_wp2
  go_ret
  exact ⟨rfl, hb1⟩
theorem ftwo_o2 (A0 : Option Addr) (n0 c0 : Nat) (A1 : Option Addr) (n1 c1 : Nat) (t m : Nat) (w : World) (l0 : n0 ≤ 9223372036854775807) (l1 : n1 ≤ 9223372036854775807) (ht : t < 256) (hm : m = 1 + t % 60) (h2 : n0 ≤ 32 * m) (h : 32 * m < n1) :
    Calls Try.prog 8 #[.slice A0 n0 c0, .slice A1 n1 c1, .int .u8 (t : Int)] w (Yes w) := by
  have z1 : (t : Int).tmod 60 = ((t % 60 : Nat) : Int) := by rw [Int.tmod_eq_emod_of_nonneg (by omega)]; omega
  have z1' : (t : Int) % 60 = ((t % 60 : Nat) : Int) := by omega
  have z2 : 1 + ((t % 60 : Nat) : Int) = (m : Int) := by omega
  have hm1 : 1 ≤ m := by omega
  have hm2 : m ≤ 60 := by omega
  have q1 : decide (32 * (m : Int) < (n0 : Int)) = false := by simp; omega
  have q2 : decide (32 * (m : Int) < (n1 : Int)) = true := by simp; omega
  clear hm
  generalize t % 60 = t60 at z1 z1' z2
  go_enter Try.func8, Try.ntmps8
  go_wp2_with fail
  with_reducible refine (fshown_any _).mono ?_
  rintro e w1 ⟨rfl, hb1⟩
  go_wp2
  go_ret
  exact ⟨rfl, hb1⟩
theorem ftwo_o3 (A0 : Option Addr) (n0 c0 : Nat) (A1 : Option Addr) (n1 c1 : Nat) (t m : Nat) (w : World) (l0 : n0 ≤ 9223372036854775807) (l1 : n1 ≤ 9223372036854775807) (ht : t < 256) (hm : m = 1 + t % 60) (h2 : n0 ≤ 32 * m) (h3 : n1 ≤ 32 * m) (h : 2000 < n0 + n1) :
    Calls Try.prog 8 #[.slice A0 n0 c0, .slice A1 n1 c1, .int .u8 (t : Int)] w (Yes w) := by
  have z1 : (t : Int).tmod 60 = ((t % 60 : Nat) : Int) := by rw [Int.tmod_eq_emod_of_nonneg (by omega)]; omega
  have z1' : (t : Int) % 60 = ((t % 60 : Nat) : Int) := by omega
  have z2 : 1 + ((t % 60 : Nat) : Int) = (m : Int) := by omega
  have hm1 : 1 ≤ m := by omega
  have hm2 : m ≤ 60 := by omega
  have q1 : decide (32 * (m : Int) < (n0 : Int)) = false := by simp; omega
  have q2 : decide (32 * (m : Int) < (n1 : Int)) = false := by simp; omega
  have q3 : decide ((2000 : Int) < (n0 : Int) + (n1 : Int)) = true := by simp; omega
  clear hm
  generalize t % 60 = t60 at z1 z1' z2
  go_enter Try.func8, Try.ntmps8
  go_wp2_with fail
  with_reducible refine (fshown_any _).mono ?_
  rintro e w1 ⟨rfl, hb1⟩
  go_wp2
  go_ret
  exact ⟨rfl, hb1⟩
theorem ftwo_out (A0 : Option Addr) (n0 c0 : Nat) (la : List UInt8) (A1 : Option Addr) (n1 c1 : Nat) (lb : List UInt8) (t m : Nat) (w : World) (h0 : Rd w A0 n0 c0 la) (h1 : Rd w A1 n1 c1 lb) (ht : t < 256) (hm : m = 1 + t % 60) (h : 32 * m < n0 ∨ (n0 ≤ 32 * m ∧ 32 * m < n1) ∨ (n0 ≤ 32 * m ∧ n1 ≤ 32 * m ∧ 2000 < n0 + n1)) :
    Calls Try.prog 8 #[.slice A0 n0 c0, .slice A1 n1 c1, .int .u8 (t : Int)] w (Yes w) := by
  rcases h with h | ⟨h2, h⟩ | ⟨h2, h3, h⟩
  · exact ftwo_o1 A0 n0 c0 A1 n1 c1 t m w h0.le h1.le ht hm h
  · exact ftwo_o2 A0 n0 c0 A1 n1 c1 t m w h0.le h1.le ht hm h2 h
  · exact ftwo_o3 A0 n0 c0 A1 n1 c1 t m w h0.le h1.le ht hm h2 h3 h
set_option maxRecDepth 100000 in
set_option maxHeartbeats 8000000 in
theorem ftwo_in (A0 : Option Addr) (n0 c0 : Nat) (la : List UInt8) (A1 : Option Addr) (n1 c1 : Nat) (lb : List UInt8) (t m : Nat) (w : World) (h0 : Rd w A0 n0 c0 la) (h1 : Rd w A1 n1 c1 lb) (ht : t < 256) (hm : m = 1 + t % 60) (g0 : n0 ≤ 32 * m) (g1 : n1 ≤ 32 * m) (g2 : n0 + n1 ≤ 2000) :
    Calls Try.prog 8 #[.slice A0 n0 c0, .slice A1 n1 c1, .int .u8 (t : Int)] w (Yes w) := by
  have z1 : (t : Int).tmod 60 = ((t % 60 : Nat) : Int) := by rw [Int.tmod_eq_emod_of_nonneg (by omega)]; omega
  have z1' : (t : Int) % 60 = ((t % 60 : Nat) : Int) := by omega
  have z2 : 1 + ((t % 60 : Nat) : Int) = (m : Int) := by omega
  have hm1 : 1 ≤ m := by omega
  have hm2 : m ≤ 60 := by omega
  have q1 : decide (32 * (m : Int) < (n0 : Int)) = false := by simp; omega
  have q2 : decide (32 * (m : Int) < (n1 : Int)) = false := by simp; omega
  have q3 : decide ((2000 : Int) < (n0 : Int) + (n1 : Int)) = false := by simp; omega
  have H0 := hidT h0
  have H1 := hidT h1
  have HGE := hidT (And.intro g0 g1)
  clear h0 h1 hm g0 g1
  generalize t % 60 = t60 at z1 z1' z2
  go_enter Try.func8, Try.ntmps8
  go_wp2_with fail
  with_reducible refine (fshown_any _).mono ?_
  rintro e w1 ⟨rfl, hb1⟩
  obtain ⟨ga, gb, hb2⟩ := two_alloc w1 (.cells #[.int .i64 0, .int .i64 0, .int .i64 0, .slice none 0 0] 24) (.cells #[.slice A0 n0 c0, .slice A1 n1 c1] 22)
  have GA := hidT ga
  have GB := hidT gb
  have hs2 : ((w1.alloc (.cells #[.int .i64 0, .int .i64 0, .int .i64 0, .slice none 0 0] 24)).alloc (.cells #[.slice A0 n0 c0, .slice A1 n1 c1] 22)).heap.size = w1.heap.size + 2 := by simp only [size_alloc]
  have HS2 := hidT hs2
  clear ga gb hs2
  go_wp2
  go_loopw [10, 12, 13] (fun v10 v12 i wr => ∃ (k : Nat) (A10 : Option Addr) (c10 : Nat) (gs : List Bw) (sq : Int) (A6 : Option Addr) (n6 c6 : Nat), k ≤ 2 ∧ i = .int .i64 k ∧ v10 = .slice A10 k c10 ∧ v12 = .int .i64 sq ∧ (1 ≤ sq ∧ sq ≤ 1 + 33 * (k : Int)) ∧ Hid (OwnV wr (w1.heap.size + 2) 22 (.slice A10 k c10) k (gs.map Bw.val)) ∧ Hid (OwnB wr (w1.heap.size + 2) gs) ∧ Hid (gs.map Bw.b = [la, lb].take k) ∧
      Hid (wr.heap[w1.heap.size]? = some (.cells #[.int .i64 0, .int .i64 0, .int .i64 0, .slice A6 n6 c6] 24 (0, 0))) ∧ Hid (Rd wr A6 n6 c6 []) ∧ Hid (wr.heap[w1.heap.size + 1]? = some (.cells #[.slice A0 n0 c0, .slice A1 n1 c1] 22)) ∧ w1.heap.size + 2 ≤ wr.heap.size ∧ Below w1.heap.size w1 wr) (fun _ _ i _ => 2 - (intOf i).toNat)
  case atStart => exact ⟨0, none, 0, [], 1, none, 0, 0, Nat.zero_le _, rfl, rfl, rfl, ⟨by omega, by omega⟩, hidT (World.ownsRow_nil _ _ _ _), hidT (fun r hr => by cases hr), hidT rfl, GA, hidT (Rd.nil_ _), GB, Nat.le_of_eq HS2.out.symm, hb2⟩
  case round =>
    obtain ⟨k, A10, c10, gs, sq, A6, n6, c6, hk, rfl, rfl, rfl, ⟨hq1, hq2⟩, HG, HQ, HGB, HX, HR6, HM, hsz, hbo⟩ := hrel
    by_cases hk2 : k < 2
    · obtain ⟨A, n, c, l, hcell, hrd, hn32, hl, hn2000⟩ : ∃ (A : Option Addr) (n c : Nat) (l : List UInt8), wr.cell? ⟨w1.heap.size + 1, k, none⟩ = some (.slice A n c) ∧ Rd w A n c l ∧ n ≤ 32 * m ∧ [la, lb][k]? = some l ∧ n ≤ 2000 := by
        rcases Nat.lt_or_ge k 1 with h | h
        · obtain rfl : k = 0 := by omega
          exact ⟨A0, n0, c0, la, cell_at HM.out 0 rfl, H0.out, HGE.out.1, rfl, by omega⟩
        · obtain rfl : k = 1 := by omega
          exact ⟨A1, n1, c1, lb, cell_at HM.out 1 rfl, H1.out, HGE.out.2, rfl, by omega⟩
      have x1 : (0 : Int) ≤ (k : Int) := by omega
      have x2 : (k : Int) < 2 := by omega
      have p2 : k < 2 := hk2
      obtain ⟨K, HK⟩ : ∃ K, Hid (manyN n m = K) := ⟨_, hidT rfl⟩
      have hK1 : 1 ≤ K := by rw [← HK.out]; exact manyN_pos _ _
      have hK3 : K ≤ 32 := by rw [← HK.out]; exact manyN_32 hm1 hn32
      have HL := hidT hrd.1
      have hc := cut_someO A n c l m wr (hrd.below (bthen hb1 hbo)) (by omega) hm1 (by omega)
      have HLL := hidT hl
      clear hrd hl hn32
      go_wp2_with fail
      with_reducible refine hc.mono ?_
      rintro e w2 ⟨A14, n14, c14, rs, rfl, hV14, hR14, hF14, hB14, hb2'⟩
      have hn14 : K = n14 := by
        have h1 := OwnV.size hV14
        rw [List.length_map] at h1
        have h2 := congrArg List.length hB14
        rw [List.length_map, cutOf_length, HL.out, HK.out] at h2
        omega
      subst hn14
      have HFR : Hid (∀ r ∈ rs, ∀ b o, r.A = some ⟨b, o, none⟩ → w1.heap.size + 2 ≤ b) := hidT fun r hr b o hA => by have := hF14 r hr b o hA; omega
      have hV14' := OwnV.mono (base' := w1.heap.size + 2) hV14 hsz
      have HCUT := hidT hB14
      have hRB : RdB w2 A14 K c14 rs := ⟨OwnV.same hV14, hR14⟩
      have HCAT : Hid (∀ j, j ≤ K → catB rs j = l.take (j * m)) := hidT fun j hj => catB_take hRB hB14 (by rw [HL.out]; exact HK.out) j hj
      have HALL : Hid (catB rs K = l) := by rw [HCAT.out K (Nat.le_refl _)]; exact hidT (all_taken hm1 (by rw [HL.out]; exact HK.out))
      have HL60 := hidT (And.intro hV14' hR14)
      have HG2 := hidT (OwnV.later HG.out hb2')
      have HQ2 := hidT (HQ.out.later hb2')
      have HX2 := hidT (keepH HX.out hb2')
      have HR62 := hidT (HR6.out.below hb2')
      have HM2 := hidT (keepH HM.out hb2')
      have hb12 : Below w1.heap.size w1 w2 := hbo.trans (hb2'.mono hbo.size)
      have hsz2 : w1.heap.size + 2 ≤ w2.heap.size := by have := hb2'.size; omega
      clear hc hV14 hR14 hF14 hB14 hV14' hRB hcell HX HR6 HG HQ HM hsz
      go_wp2
      go_loopw [10, 12, 15] (fun v10 v12 i wr => ∃ (j : Nat) (A10 : Option Addr) (k1 c10 : Nat) (gs : List Bw) (A6 : Option Addr) (n6 c6 : Nat) (pj : Pt), j ≤ K ∧ i = .int .i64 j ∧ v10 = .slice A10 k1 c10 ∧ v12 = .int .i64 (sq + (j : Int)) ∧ Hid (if j = K then k + 1 = k1 ∧ gs.map Bw.b = [la, lb].take (k + 1) else k = k1 ∧ gs.map Bw.b = [la, lb].take k) ∧ Hid ((if j = K then none_ else partAt sq K rs j) = pj) ∧
          Hid (wr.heap[w1.heap.size]? = some (.cells #[.int .i64 pj.seq, .int .i64 pj.total, .int .i64 pj.got, .slice A6 n6 c6] 24 (0, 0))) ∧ Hid (Rd wr A6 n6 c6 pj.b) ∧ Hid (OwnV wr (w1.heap.size + 2) 22 (.slice A10 k1 c10) k1 (gs.map Bw.val)) ∧ Hid (OwnB wr (w1.heap.size + 2) gs) ∧ Hid (wr.heap[w1.heap.size + 1]? = some (.cells #[.slice A0 n0 c0, .slice A1 n1 c1] 22)) ∧
          Hid (j < K → OwnV wr (w1.heap.size + 2) 22 (.slice A14 K c14) K (rs.map Bw.val) ∧ ∀ r ∈ rs, Rd wr r.A r.n r.c r.b) ∧ Below w1.heap.size w1 wr) (fun _ _ i _ => K - (intOf i).toNat)
      case atStart => exact ⟨0, A10, k, c10, gs, A6, n6, c6, none_, Nat.zero_le _, rfl, rfl, by congr 1; omega, hidT (by rw [if_neg (by omega)]; exact ⟨rfl, HGB.out⟩), hidT (by rw [if_neg (by omega)]; rfl), hidT HX2.out, hidT HR62.out, HG2, HQ2, HM2, hidT (fun _ => HL60.out), hb12⟩
      case round =>
        clear HGB HG2 HQ2 HX2 HR62 HM2 HL60 hb2' hbo hb12 hsz2
        obtain ⟨j, A10, k1, c10, gs, A6, n6, c6, pj, hj, rfl, rfl, rfl, HIF, HPJ, HX, HR6, HG, HQ, HM, HL6c, hbr⟩ := hrel
        have hszr : w1.heap.size + 1 < wr.heap.size := blk_lt HM.out
        by_cases hjK : j < K
        · obtain ⟨hk1, hgb⟩ : k = k1 ∧ gs.map Bw.b = [la, lb].take k := by have := HIF.out; rwa [if_neg (by omega)] at this
          subst hk1
          have HGB := hidT hgb
          have hL6 := HL6c.out hjK
          have HL6 := hidT hL6
          have hRB : RdB wr A14 K c14 rs := ⟨OwnV.same hL6.1, hL6.2⟩
          obtain ⟨b, o, r, rfl, hr, hrd, hcell⟩ := hRB.at_ hjK
          have y1 : (0 : Int) ≤ (j : Int) := by omega
          have y2 : (j : Int) < (K : Int) := by omega
          have hpe : partAt sq K rs j = pj := by have := HPJ.out; rwa [if_neg (by omega)] at this
          have hpb : pj.b = catB rs j := by rw [← hpe]; exact partAt_b _ _ _ _
          have hpg : pj.got = (j : Int) := by rw [← hpe]; exact partAt_got _ _ _ _
          have hn6 : n6 ≤ 2000 := by
            have h1 := HR6.out.1
            rw [hpb, HCAT.out j (by omega), List.length_take, HL.out] at h1
            omega
          have hrn : r.n ≤ 2000 := by
            have h1 := hrd.1
            rw [rows_at HCUT.out hr (by rw [HL.out, HK.out]; exact hjK), piece_length, HL.out] at h1
            omega
          have hj1w : IntKind.i64.wrap ((j : Int) + 1) = (j : Int) + 1 := IntWalk.i64_in _ (by omega)
          have hsw : IntKind.i64.wrap (sq + (j : Int)) = sq + (j : Int) := IntWalk.i64_in _ (by omega)
          have hsw1 : IntKind.i64.wrap (sq + (j : Int) + 1) = sq + (j : Int) + 1 := IntWalk.i64_in _ (by omega)
          have hstep := add_step (K := K) (seq := sq) ⟨by omega, by omega⟩ (by omega) hjK hr
          rw [hpe, hsw] at hstep
          have HA1 : Hid (∀ w', Below wr.heap.size wr w' → Calls Try.prog 11 #[.agg #[.int .i64 pj.seq, .int .i64 pj.total, .int .i64 pj.got, .slice A6 n6 c6], .int .i64 (sq + (j : Int)), .int .i64 ((j : Int) + 1), .int .i64 (K : Int), .slice r.A r.n r.c] w' (AddIs w' ⟨pj, [], false, 2⟩)) := by
            refine hidT fun w' hb => ?_
            have := add_any pj A6 n6 c6 (sq + (j : Int)) ((j : Int) + 1) (K : Int) r.A r.n r.c r.b w' (HR6.out.below hb) (hrd.below hb) (by omega) (by omega)
            rw [addOf_no (fits_late hpg)] at this
            exact this
          have kx0 := fun w' (hb : Below wr.heap.size wr w') => (cells4 (keepH HX.out hb)).1
          have kx1 := fun w' (hb : Below wr.heap.size wr w') => (cells4 (keepH HX.out hb)).2.1
          have kx2 := fun w' (hb : Below wr.heap.size wr w') => (cells4 (keepH HX.out hb)).2.2.1
          have kx3 := fun w' (hb : Below wr.heap.size wr w') => (cells4 (keepH HX.out hb)).2.2.2
          have kr := hcell
          have HCE := hidT hcell
          have HRD := hidT hrd
          have D1 : Below wr.heap.size wr (wr.alloc (.cells #[.int .i64 0, .int .i64 0, .int .i64 0, .slice none 0 0] 24)) := nkeep wr _
          clear hpe hpb hpg hL6 hRB hcell hrd hgb hr
          by_cases hlast : j + 1 = K
          · rw [if_pos hlast] at hstep
            have hca : catB rs (j + 1) = l := by rw [hlast]; exact HALL.out
            rw [hca] at hstep
            clear hca
            have HST := hidT hstep
            clear hstep
            go_wp2_with fail
            go_region_held_law (fun w' => Below wr.heap.size wr w')
              (first | exact (Below.refl _ _).drew | exact hbF | exact hb4 | exact D1.drew | exact D1 | exact bthen hb4 (nkeep _ _))
              (first
                | (go_at_call 11; ((with_reducible refine (HA1.out _ (Below.refl _ _).drew).mono ?_); rintro e4 w4 ⟨A4, n4, c4, B4, m4, d4, rfl, hr4, hs4, hb4'⟩; have hb4 : Below wr.heap.size wr w4 := undrew hb4'; dsimp only at hr4 hs4 ⊢))
                | (go_at_call 11; ((with_reducible refine (HA1.out _ D1.drew).mono ?_); rintro e4 w4 ⟨A4, n4, c4, B4, m4, d4, rfl, hr4, hs4, hb4'⟩; have hb4 : Below wr.heap.size wr w4 := bthen D1 (undrew hb4'); have y4 := keepH (alloc_at wr (.cells #[.int .i64 0, .int .i64 0, .int .i64 0, .slice none 0 0] 24) _ rfl) (undrew hb4'); obtain ⟨i0, i1, i2, i3⟩ := cells4 y4; have f0 := no_frozen y4 0; have f1 := no_frozen y4 1; have f2 := no_frozen y4 2; have f3 := no_frozen y4 3; have hbF : Below wr.heap.size wr ((((w4.setCell ⟨wr.heap.size, 0, none⟩ (.int .i64 pj.seq)).setCell ⟨wr.heap.size, 1, none⟩ (.int .i64 pj.total)).setCell ⟨wr.heap.size, 2, none⟩ (.int .i64 pj.got)).setCell ⟨wr.heap.size, 3, none⟩ (.slice A4 n4 c4)) := (set4 y4 _ _ _ _).2.2 _ _ hb4 (Nat.le_refl _); dsimp only at hr4 hs4 ⊢))
                | fail)
            · have hb5 := bthen hb4 (nkeep w4 (.cells #[.int .i64 pj.seq, .int .i64 pj.total, .int .i64 pj.got, .slice A4 n4 c4] 24))
              clear hr4 hs4 hb4' kx0 kx1 kx2 kx3 kr HA1
              generalize w4.alloc (.cells #[.int .i64 pj.seq, .int .i64 pj.total, .int .i64 pj.got, .slice A4 n4 c4] 24) = W5 at hb5 ⊢
              generalize (Value.tuple #[.agg #[.int .i64 pj.seq, .int .i64 pj.total, .int .i64 pj.got, .slice A4 n4 c4], .slice B4 m4 d4, .bool false, .int .i64 2]) = dead1
              generalize (Value.agg #[.int .i64 pj.seq, .int .i64 pj.total, .int .i64 pj.got, .slice A4 n4 c4]) = dead2
              have HA2 : Hid (∀ w', Below W5.heap.size W5 w' → Calls Try.prog 11 #[.agg #[.int .i64 pj.seq, .int .i64 pj.total, .int .i64 pj.got, .slice A6 n6 c6], .int .i64 (sq + (j : Int)), .int .i64 (j : Int), .int .i64 (K : Int), .slice r.A r.n r.c] w' (AddIsO w' ⟨none_, l, true, 0⟩)) := by
                refine hidT fun w' hb => ?_
                have := add_anyO pj A6 n6 c6 (sq + (j : Int)) (j : Int) (K : Int) r.A r.n r.c r.b w' (HR6.out.below (bthen hb5 hb)) (HRD.out.below (bthen hb5 hb)) (by omega) (by omega)
                rw [HST.out] at this
                exact this
              have kx0 := fun w' (hb : Below W5.heap.size W5 w') => (cells4 (keepH HX.out (bthen hb5 hb))).1
              have kx1 := fun w' (hb : Below W5.heap.size W5 w') => (cells4 (keepH HX.out (bthen hb5 hb))).2.1
              have kx2 := fun w' (hb : Below W5.heap.size W5 w') => (cells4 (keepH HX.out (bthen hb5 hb))).2.2.1
              have kx3 := fun w' (hb : Below W5.heap.size W5 w') => (cells4 (keepH HX.out (bthen hb5 hb))).2.2.2
              have kr := fun w' (hb : Below W5.heap.size W5 w') => HCE.out w' (bthen hb5 hb)
              have D2 : Below W5.heap.size W5 (W5.alloc (.cells #[.int .i64 0, .int .i64 0, .int .i64 0, .slice none 0 0] 24)) := nkeep W5 _
              have hl5 := hb5.size
              go_wp2_with fail
              go_region_held_law (fun w' => Below W5.heap.size W5 w')
                (first | exact (Below.refl _ _).drew | exact hbG | exact hb7 | exact D2.drew | exact D2 | exact bthen hb7 (nkeep _ _))
                (first
                  | (go_at_call 11; ((with_reducible refine (HA2.out _ (Below.refl _ _).drew).mono ?_); rintro e5 w7 ⟨A5, n5, c5, B5, m5, d5, rfl, hr5, hs5, hb7', ha5⟩; have hb7 : Below W5.heap.size W5 w7 := undrew hb7'; dsimp only [none_] at hr5 hs5 ⊢))
                  | (go_at_call 11; ((with_reducible refine (HA2.out _ D2.drew).mono ?_); rintro e5 w7 ⟨A5, n5, c5, B5, m5, d5, rfl, hr5, hs5, hb7', ha5⟩; have hb7 : Below W5.heap.size W5 w7 := bthen D2 (undrew hb7'); have y7 := keepH (alloc_at W5 (.cells #[.int .i64 0, .int .i64 0, .int .i64 0, .slice none 0 0] 24) _ rfl) (undrew hb7'); obtain ⟨i0, i1, i2, i3⟩ := cells4 y7; have f0 := no_frozen y7 0; have f1 := no_frozen y7 1; have f2 := no_frozen y7 2; have f3 := no_frozen y7 3; have hbG : Below W5.heap.size W5 ((((w7.setCell ⟨W5.heap.size, 0, none⟩ (.int .i64 0)).setCell ⟨W5.heap.size, 1, none⟩ (.int .i64 0)).setCell ⟨W5.heap.size, 2, none⟩ (.int .i64 0)).setCell ⟨W5.heap.size, 3, none⟩ (.slice A5 n5 c5)) := (set4 y7 _ _ _ _).2.2 _ _ hb7 (Nat.le_refl _); dsimp only [none_] at hr5 hs5 ⊢))
                  | fail)
              · have y8 := alloc_at w7 (.cells #[.int .i64 0, .int .i64 0, .int .i64 0, .slice A5 n5 c5] 24) _ rfl
                have r8 := hr5.alloc (.cells #[.int .i64 0, .int .i64 0, .int .i64 0, .slice A5 n5 c5] 24)
                have o8 := Own.mono (base' := W5.heap.size) (hs5.later (nkeep w7 (.cells #[.int .i64 0, .int .i64 0, .int .i64 0, .slice A5 n5 c5] 24))) (Nat.le_refl _)
                have hb8 := bthen hb7 (nkeep w7 (.cells #[.int .i64 0, .int .i64 0, .int .i64 0, .slice A5 n5 c5] 24))
                have hgx : W5.heap.size ≤ w7.heap.size := hb7.size
                have ha8 : ∀ b o, A5 = some ⟨b, o, none⟩ → W5.heap.size ≤ b := fun b o hA => ha5 b o hA
                clear hr5 ha5 hs5 hb7'
                generalize w7.alloc (.cells #[.int .i64 0, .int .i64 0, .int .i64 0, .slice A5 n5 c5] 24) = W8 at r8 o8 y8 hb8 ⊢
                have b58 := bthen hb5 hb8
                have x8 := keepH HX.out b58
                have X8 := hidT x8
                have Y8 := hidT y8
                have R8 := hidT r8
                have O8 := hidT o8
                have M8 := hidT (keepH HM.out b58)
                have G8 := hidT (OwnV.later HG.out b58)
                have Q8 := hidT (HQ.out.later b58)
                have b18 : Below w1.heap.size w1 W8 := hbr.trans (b58.mono hbr.size)
                have hg9 := blk_lt HX.out
                have hg8 := b58.size
                clear kx0 kx1 kx2 kx3 kr y8 r8 o8 x8
                have hr1 : RdV (W8.alloc (.cells #[.slice B5 m5 d5] 22)) (some ⟨W8.heap.size, 0, none⟩) 1 1 [.slice B5 m5 d5] := RdV.lit W8 _ _ _ _ rfl 1 rfl (by simp only [maxLen]; omega) _ rfl
                have hG9 := OwnV.later G8.out (nkeep W8 (.cells #[.slice B5 m5 d5] 22))
                have hz9 : w1.heap.size + 2 ≤ (W8.alloc (.cells #[.slice B5 m5 d5] 22)).heap.size := by rw [size_alloc]; omega
                have HR1 := hidT hr1
                have HG9 := hidT hG9
                clear hr1 hG9
                go_wp2_with (
                  at_builtin
                  refine wpList_appV rfl (.tmp 108) (.tmp 110) 35 rfl (w1.heap.size + 2) 22 (.slice none 0 0) 24 infoS rfl (by omega) Try.underlying35 (.slice A10 k c10) k (gs.map Bw.val) rfl HG9.out (some ⟨W8.heap.size, 0, none⟩) 1 1 [.slice B5 m5 d5] rfl HR1.out (by simp [Value.oneCell']) (by omega) hz9 ?_
                  intro v9 w9 ho9 hb9 hg9'
                  obtain ⟨A11, c11, rfl, hrd9⟩ := OwnV.rd ho9
                  have HO9 := hidT ho9
                  have hn8 := nkeep W8 (.cells #[.slice B5 m5 d5] 22)
                  have HQ9 := hidT (((OwnB.snoc (r := ⟨B5, m5, d5, l⟩) Q8.out (Own.mono O8.out (by omega))).later hn8).grown HG9.out hg9')
                  have y9 := blockV_apart (keepH Y8.out hn8) (.inl hgx) (OwnV.later HG.out hb5) hg9'
                  have x9 := blockV_apart (keepH X8.out hn8) (.inr (by omega)) HG.out hg9'
                  have M9 := hidT (blockV_apart (keepH M8.out hn8) (.inr (by omega)) HG.out hg9')
                  have b19 : Below w1.heap.size w1 w9 := (b18.trans (hn8.mono b18.size)).trans (hb9.mono (by omega))
                  obtain ⟨k0, k1, k2, k3⟩ := cells4 y9
                  obtain ⟨l0, l1, l2, l3⟩ := cells4 x9
                  have fz := no_frozen x9
                  have X9 := hidT x9
                  clear ho9 hrd9 hg9' y9 x9)
                obtain ⟨xa, butA, belA⟩ := set4 X9.out (.int .i64 0) (.int .i64 0) (.int .i64 0) (.slice A5 n5 c5)
                refine ⟨⟨j + 1, A11, k + 1, c11, gs ++ [⟨B5, m5, d5, l⟩], A5, n5, c5, none_, by omega, by go_num, rfl, ?_, hidT ?_, hidT (by rw [if_pos hlast]), hidT xa, hidT (R8.out.any0 _), hidT (OwnV.but ?_ (by omega) butA), hidT (fun r hr => (HQ9.out r hr).but (by omega) butA), hidT ((butA.2 _ (by omega)).trans M9.out), hidT (fun h => absurd h (by omega)), belA _ _ b19 (Nat.le_refl _)⟩, by simp [intOf]; omega⟩
                · congr 1; omega
                · rw [if_pos hlast]; exact ⟨rfl, by rw [List.map_append, HGB.out, List.take_add_one, HLL.out]; rfl⟩
                · rw [List.map_append]; exact HO9.out
              · have s4 := set4 y7 (.int .i64 0) (.int .i64 0) (.int .i64 0) (.slice A5 n5 c5)
                have hza := size_alloc W5 (.cells #[.int .i64 0, .int .i64 0, .int .i64 0, .slice none 0 0] 24)
                have r8 := hr5.but (fun b o hA => by have h1 := ha5 b o hA; have h2 : (W5.alloc (.cells #[.int .i64 0, .int .i64 0, .int .i64 0, .slice none 0 0] 24)).heap.size ≤ b := h1; omega) s4.2.1
                have o8 := Own.mono (base' := W5.heap.size) (hs5.but (show W5.heap.size < (W5.alloc (.cells #[.int .i64 0, .int .i64 0, .int .i64 0, .slice none 0 0] 24)).heap.size by omega) s4.2.1) (show W5.heap.size ≤ (W5.alloc (.cells #[.int .i64 0, .int .i64 0, .int .i64 0, .slice none 0 0] 24)).heap.size by omega)
                have y8 := s4.1
                have hb8 := hbG
                have hgx : W5.heap.size ≤ W5.heap.size := Nat.le_refl _
                have ha8 : ∀ b o, A5 = some ⟨b, o, none⟩ → W5.heap.size ≤ b := fun b o hA => by have h1 := ha5 b o hA; have h2 : (W5.alloc (.cells #[.int .i64 0, .int .i64 0, .int .i64 0, .slice none 0 0] 24)).heap.size ≤ b := h1; omega
                clear s4 hza hbG i0 i1 i2 i3 f0 f1 f2 f3 y7 hr5 ha5 hs5 hb7'
                generalize ((((w7.setCell ⟨W5.heap.size, 0, none⟩ (.int .i64 0)).setCell ⟨W5.heap.size, 1, none⟩ (.int .i64 0)).setCell ⟨W5.heap.size, 2, none⟩ (.int .i64 0)).setCell ⟨W5.heap.size, 3, none⟩ (.slice A5 n5 c5)) = W8 at r8 o8 y8 hb8 ⊢
                have b58 := bthen hb5 hb8
                have x8 := keepH HX.out b58
                have X8 := hidT x8
                have Y8 := hidT y8
                have R8 := hidT r8
                have O8 := hidT o8
                have M8 := hidT (keepH HM.out b58)
                have G8 := hidT (OwnV.later HG.out b58)
                have Q8 := hidT (HQ.out.later b58)
                have b18 : Below w1.heap.size w1 W8 := hbr.trans (b58.mono hbr.size)
                have hg9 := blk_lt HX.out
                have hg8 := b58.size
                clear kx0 kx1 kx2 kx3 kr y8 r8 o8 x8
                have hr1 : RdV (W8.alloc (.cells #[.slice B5 m5 d5] 22)) (some ⟨W8.heap.size, 0, none⟩) 1 1 [.slice B5 m5 d5] := RdV.lit W8 _ _ _ _ rfl 1 rfl (by simp only [maxLen]; omega) _ rfl
                have hG9 := OwnV.later G8.out (nkeep W8 (.cells #[.slice B5 m5 d5] 22))
                have hz9 : w1.heap.size + 2 ≤ (W8.alloc (.cells #[.slice B5 m5 d5] 22)).heap.size := by rw [size_alloc]; omega
                have HR1 := hidT hr1
                have HG9 := hidT hG9
                clear hr1 hG9
                go_wp2_with (
                  at_builtin
                  refine wpList_appV rfl (.tmp 108) (.tmp 110) 35 rfl (w1.heap.size + 2) 22 (.slice none 0 0) 24 infoS rfl (by omega) Try.underlying35 (.slice A10 k c10) k (gs.map Bw.val) rfl HG9.out (some ⟨W8.heap.size, 0, none⟩) 1 1 [.slice B5 m5 d5] rfl HR1.out (by simp [Value.oneCell']) (by omega) hz9 ?_
                  intro v9 w9 ho9 hb9 hg9'
                  obtain ⟨A11, c11, rfl, hrd9⟩ := OwnV.rd ho9
                  have HO9 := hidT ho9
                  have hn8 := nkeep W8 (.cells #[.slice B5 m5 d5] 22)
                  have HQ9 := hidT (((OwnB.snoc (r := ⟨B5, m5, d5, l⟩) Q8.out (Own.mono O8.out (by omega))).later hn8).grown HG9.out hg9')
                  have y9 := blockV_apart (keepH Y8.out hn8) (.inl hgx) (OwnV.later HG.out hb5) hg9'
                  have x9 := blockV_apart (keepH X8.out hn8) (.inr (by omega)) HG.out hg9'
                  have M9 := hidT (blockV_apart (keepH M8.out hn8) (.inr (by omega)) HG.out hg9')
                  have b19 : Below w1.heap.size w1 w9 := (b18.trans (hn8.mono b18.size)).trans (hb9.mono (by omega))
                  obtain ⟨k0, k1, k2, k3⟩ := cells4 y9
                  obtain ⟨l0, l1, l2, l3⟩ := cells4 x9
                  have fz := no_frozen x9
                  have X9 := hidT x9
                  clear ho9 hrd9 hg9' y9 x9)
                obtain ⟨xa, butA, belA⟩ := set4 X9.out (.int .i64 0) (.int .i64 0) (.int .i64 0) (.slice A5 n5 c5)
                refine ⟨⟨j + 1, A11, k + 1, c11, gs ++ [⟨B5, m5, d5, l⟩], A5, n5, c5, none_, by omega, by go_num, rfl, ?_, hidT ?_, hidT (by rw [if_pos hlast]), hidT xa, hidT (R8.out.any0 _), hidT (OwnV.but ?_ (by omega) butA), hidT (fun r hr => (HQ9.out r hr).but (by omega) butA), hidT ((butA.2 _ (by omega)).trans M9.out), hidT (fun h => absurd h (by omega)), belA _ _ b19 (Nat.le_refl _)⟩, by simp [intOf]; omega⟩
                · congr 1; omega
                · rw [if_pos hlast]; exact ⟨rfl, by rw [List.map_append, HGB.out, List.take_add_one, HLL.out]; rfl⟩
                · rw [List.map_append]; exact HO9.out
            · have hb5 := hbF
              clear hbF i0 i1 i2 i3 f0 f1 f2 f3 y4 hr4 hs4 hb4' kx0 kx1 kx2 kx3 kr HA1
              generalize ((((w4.setCell ⟨wr.heap.size, 0, none⟩ (.int .i64 pj.seq)).setCell ⟨wr.heap.size, 1, none⟩ (.int .i64 pj.total)).setCell ⟨wr.heap.size, 2, none⟩ (.int .i64 pj.got)).setCell ⟨wr.heap.size, 3, none⟩ (.slice A4 n4 c4)) = W5 at hb5 ⊢
              generalize (Value.tuple #[.agg #[.int .i64 pj.seq, .int .i64 pj.total, .int .i64 pj.got, .slice A4 n4 c4], .slice B4 m4 d4, .bool false, .int .i64 2]) = dead1
              generalize (Value.agg #[.int .i64 pj.seq, .int .i64 pj.total, .int .i64 pj.got, .slice A4 n4 c4]) = dead2
              have HA2 : Hid (∀ w', Below W5.heap.size W5 w' → Calls Try.prog 11 #[.agg #[.int .i64 pj.seq, .int .i64 pj.total, .int .i64 pj.got, .slice A6 n6 c6], .int .i64 (sq + (j : Int)), .int .i64 (j : Int), .int .i64 (K : Int), .slice r.A r.n r.c] w' (AddIsO w' ⟨none_, l, true, 0⟩)) := by
                refine hidT fun w' hb => ?_
                have := add_anyO pj A6 n6 c6 (sq + (j : Int)) (j : Int) (K : Int) r.A r.n r.c r.b w' (HR6.out.below (bthen hb5 hb)) (HRD.out.below (bthen hb5 hb)) (by omega) (by omega)
                rw [HST.out] at this
                exact this
              have kx0 := fun w' (hb : Below W5.heap.size W5 w') => (cells4 (keepH HX.out (bthen hb5 hb))).1
              have kx1 := fun w' (hb : Below W5.heap.size W5 w') => (cells4 (keepH HX.out (bthen hb5 hb))).2.1
              have kx2 := fun w' (hb : Below W5.heap.size W5 w') => (cells4 (keepH HX.out (bthen hb5 hb))).2.2.1
              have kx3 := fun w' (hb : Below W5.heap.size W5 w') => (cells4 (keepH HX.out (bthen hb5 hb))).2.2.2
              have kr := fun w' (hb : Below W5.heap.size W5 w') => HCE.out w' (bthen hb5 hb)
              have D2 : Below W5.heap.size W5 (W5.alloc (.cells #[.int .i64 0, .int .i64 0, .int .i64 0, .slice none 0 0] 24)) := nkeep W5 _
              have hl5 := hb5.size
              go_wp2_with fail
              go_region_held_law (fun w' => Below W5.heap.size W5 w')
                (first | exact (Below.refl _ _).drew | exact hbG | exact hb7 | exact D2.drew | exact D2 | exact bthen hb7 (nkeep _ _))
                (first
                  | (go_at_call 11; ((with_reducible refine (HA2.out _ (Below.refl _ _).drew).mono ?_); rintro e5 w7 ⟨A5, n5, c5, B5, m5, d5, rfl, hr5, hs5, hb7', ha5⟩; have hb7 : Below W5.heap.size W5 w7 := undrew hb7'; dsimp only [none_] at hr5 hs5 ⊢))
                  | (go_at_call 11; ((with_reducible refine (HA2.out _ D2.drew).mono ?_); rintro e5 w7 ⟨A5, n5, c5, B5, m5, d5, rfl, hr5, hs5, hb7', ha5⟩; have hb7 : Below W5.heap.size W5 w7 := bthen D2 (undrew hb7'); have y7 := keepH (alloc_at W5 (.cells #[.int .i64 0, .int .i64 0, .int .i64 0, .slice none 0 0] 24) _ rfl) (undrew hb7'); obtain ⟨i0, i1, i2, i3⟩ := cells4 y7; have f0 := no_frozen y7 0; have f1 := no_frozen y7 1; have f2 := no_frozen y7 2; have f3 := no_frozen y7 3; have hbG : Below W5.heap.size W5 ((((w7.setCell ⟨W5.heap.size, 0, none⟩ (.int .i64 0)).setCell ⟨W5.heap.size, 1, none⟩ (.int .i64 0)).setCell ⟨W5.heap.size, 2, none⟩ (.int .i64 0)).setCell ⟨W5.heap.size, 3, none⟩ (.slice A5 n5 c5)) := (set4 y7 _ _ _ _).2.2 _ _ hb7 (Nat.le_refl _); dsimp only [none_] at hr5 hs5 ⊢))
                  | fail)
              · have y8 := alloc_at w7 (.cells #[.int .i64 0, .int .i64 0, .int .i64 0, .slice A5 n5 c5] 24) _ rfl
                have r8 := hr5.alloc (.cells #[.int .i64 0, .int .i64 0, .int .i64 0, .slice A5 n5 c5] 24)
                have o8 := Own.mono (base' := W5.heap.size) (hs5.later (nkeep w7 (.cells #[.int .i64 0, .int .i64 0, .int .i64 0, .slice A5 n5 c5] 24))) (Nat.le_refl _)
                have hb8 := bthen hb7 (nkeep w7 (.cells #[.int .i64 0, .int .i64 0, .int .i64 0, .slice A5 n5 c5] 24))
                have hgx : W5.heap.size ≤ w7.heap.size := hb7.size
                have ha8 : ∀ b o, A5 = some ⟨b, o, none⟩ → W5.heap.size ≤ b := fun b o hA => ha5 b o hA
                clear hr5 ha5 hs5 hb7'
                generalize w7.alloc (.cells #[.int .i64 0, .int .i64 0, .int .i64 0, .slice A5 n5 c5] 24) = W8 at r8 o8 y8 hb8 ⊢
                have b58 := bthen hb5 hb8
                have x8 := keepH HX.out b58
                have X8 := hidT x8
                have Y8 := hidT y8
                have R8 := hidT r8
                have O8 := hidT o8
                have M8 := hidT (keepH HM.out b58)
                have G8 := hidT (OwnV.later HG.out b58)
                have Q8 := hidT (HQ.out.later b58)
                have b18 : Below w1.heap.size w1 W8 := hbr.trans (b58.mono hbr.size)
                have hg9 := blk_lt HX.out
                have hg8 := b58.size
                clear kx0 kx1 kx2 kx3 kr y8 r8 o8 x8
                have hr1 : RdV (W8.alloc (.cells #[.slice B5 m5 d5] 22)) (some ⟨W8.heap.size, 0, none⟩) 1 1 [.slice B5 m5 d5] := RdV.lit W8 _ _ _ _ rfl 1 rfl (by simp only [maxLen]; omega) _ rfl
                have hG9 := OwnV.later G8.out (nkeep W8 (.cells #[.slice B5 m5 d5] 22))
                have hz9 : w1.heap.size + 2 ≤ (W8.alloc (.cells #[.slice B5 m5 d5] 22)).heap.size := by rw [size_alloc]; omega
                have HR1 := hidT hr1
                have HG9 := hidT hG9
                clear hr1 hG9
                go_wp2_with (
                  at_builtin
                  refine wpList_appV rfl (.tmp 108) (.tmp 110) 35 rfl (w1.heap.size + 2) 22 (.slice none 0 0) 24 infoS rfl (by omega) Try.underlying35 (.slice A10 k c10) k (gs.map Bw.val) rfl HG9.out (some ⟨W8.heap.size, 0, none⟩) 1 1 [.slice B5 m5 d5] rfl HR1.out (by simp [Value.oneCell']) (by omega) hz9 ?_
                  intro v9 w9 ho9 hb9 hg9'
                  obtain ⟨A11, c11, rfl, hrd9⟩ := OwnV.rd ho9
                  have HO9 := hidT ho9
                  have hn8 := nkeep W8 (.cells #[.slice B5 m5 d5] 22)
                  have HQ9 := hidT (((OwnB.snoc (r := ⟨B5, m5, d5, l⟩) Q8.out (Own.mono O8.out (by omega))).later hn8).grown HG9.out hg9')
                  have y9 := blockV_apart (keepH Y8.out hn8) (.inl hgx) (OwnV.later HG.out hb5) hg9'
                  have x9 := blockV_apart (keepH X8.out hn8) (.inr (by omega)) HG.out hg9'
                  have M9 := hidT (blockV_apart (keepH M8.out hn8) (.inr (by omega)) HG.out hg9')
                  have b19 : Below w1.heap.size w1 w9 := (b18.trans (hn8.mono b18.size)).trans (hb9.mono (by omega))
                  obtain ⟨k0, k1, k2, k3⟩ := cells4 y9
                  obtain ⟨l0, l1, l2, l3⟩ := cells4 x9
                  have fz := no_frozen x9
                  have X9 := hidT x9
                  clear ho9 hrd9 hg9' y9 x9)
                obtain ⟨xa, butA, belA⟩ := set4 X9.out (.int .i64 0) (.int .i64 0) (.int .i64 0) (.slice A5 n5 c5)
                refine ⟨⟨j + 1, A11, k + 1, c11, gs ++ [⟨B5, m5, d5, l⟩], A5, n5, c5, none_, by omega, by go_num, rfl, ?_, hidT ?_, hidT (by rw [if_pos hlast]), hidT xa, hidT (R8.out.any0 _), hidT (OwnV.but ?_ (by omega) butA), hidT (fun r hr => (HQ9.out r hr).but (by omega) butA), hidT ((butA.2 _ (by omega)).trans M9.out), hidT (fun h => absurd h (by omega)), belA _ _ b19 (Nat.le_refl _)⟩, by simp [intOf]; omega⟩
                · congr 1; omega
                · rw [if_pos hlast]; exact ⟨rfl, by rw [List.map_append, HGB.out, List.take_add_one, HLL.out]; rfl⟩
                · rw [List.map_append]; exact HO9.out
              · have s4 := set4 y7 (.int .i64 0) (.int .i64 0) (.int .i64 0) (.slice A5 n5 c5)
                have hza := size_alloc W5 (.cells #[.int .i64 0, .int .i64 0, .int .i64 0, .slice none 0 0] 24)
                have r8 := hr5.but (fun b o hA => by have h1 := ha5 b o hA; have h2 : (W5.alloc (.cells #[.int .i64 0, .int .i64 0, .int .i64 0, .slice none 0 0] 24)).heap.size ≤ b := h1; omega) s4.2.1
                have o8 := Own.mono (base' := W5.heap.size) (hs5.but (show W5.heap.size < (W5.alloc (.cells #[.int .i64 0, .int .i64 0, .int .i64 0, .slice none 0 0] 24)).heap.size by omega) s4.2.1) (show W5.heap.size ≤ (W5.alloc (.cells #[.int .i64 0, .int .i64 0, .int .i64 0, .slice none 0 0] 24)).heap.size by omega)
                have y8 := s4.1
                have hb8 := hbG
                have hgx : W5.heap.size ≤ W5.heap.size := Nat.le_refl _
                have ha8 : ∀ b o, A5 = some ⟨b, o, none⟩ → W5.heap.size ≤ b := fun b o hA => by have h1 := ha5 b o hA; have h2 : (W5.alloc (.cells #[.int .i64 0, .int .i64 0, .int .i64 0, .slice none 0 0] 24)).heap.size ≤ b := h1; omega
                clear s4 hza hbG i0 i1 i2 i3 f0 f1 f2 f3 y7 hr5 ha5 hs5 hb7'
                generalize ((((w7.setCell ⟨W5.heap.size, 0, none⟩ (.int .i64 0)).setCell ⟨W5.heap.size, 1, none⟩ (.int .i64 0)).setCell ⟨W5.heap.size, 2, none⟩ (.int .i64 0)).setCell ⟨W5.heap.size, 3, none⟩ (.slice A5 n5 c5)) = W8 at r8 o8 y8 hb8 ⊢
                have b58 := bthen hb5 hb8
                have x8 := keepH HX.out b58
                have X8 := hidT x8
                have Y8 := hidT y8
                have R8 := hidT r8
                have O8 := hidT o8
                have M8 := hidT (keepH HM.out b58)
                have G8 := hidT (OwnV.later HG.out b58)
                have Q8 := hidT (HQ.out.later b58)
                have b18 : Below w1.heap.size w1 W8 := hbr.trans (b58.mono hbr.size)
                have hg9 := blk_lt HX.out
                have hg8 := b58.size
                clear kx0 kx1 kx2 kx3 kr y8 r8 o8 x8
                have hr1 : RdV (W8.alloc (.cells #[.slice B5 m5 d5] 22)) (some ⟨W8.heap.size, 0, none⟩) 1 1 [.slice B5 m5 d5] := RdV.lit W8 _ _ _ _ rfl 1 rfl (by simp only [maxLen]; omega) _ rfl
                have hG9 := OwnV.later G8.out (nkeep W8 (.cells #[.slice B5 m5 d5] 22))
                have hz9 : w1.heap.size + 2 ≤ (W8.alloc (.cells #[.slice B5 m5 d5] 22)).heap.size := by rw [size_alloc]; omega
                have HR1 := hidT hr1
                have HG9 := hidT hG9
                clear hr1 hG9
                go_wp2_with (
                  at_builtin
                  refine wpList_appV rfl (.tmp 108) (.tmp 110) 35 rfl (w1.heap.size + 2) 22 (.slice none 0 0) 24 infoS rfl (by omega) Try.underlying35 (.slice A10 k c10) k (gs.map Bw.val) rfl HG9.out (some ⟨W8.heap.size, 0, none⟩) 1 1 [.slice B5 m5 d5] rfl HR1.out (by simp [Value.oneCell']) (by omega) hz9 ?_
                  intro v9 w9 ho9 hb9 hg9'
                  obtain ⟨A11, c11, rfl, hrd9⟩ := OwnV.rd ho9
                  have HO9 := hidT ho9
                  have hn8 := nkeep W8 (.cells #[.slice B5 m5 d5] 22)
                  have HQ9 := hidT (((OwnB.snoc (r := ⟨B5, m5, d5, l⟩) Q8.out (Own.mono O8.out (by omega))).later hn8).grown HG9.out hg9')
                  have y9 := blockV_apart (keepH Y8.out hn8) (.inl hgx) (OwnV.later HG.out hb5) hg9'
                  have x9 := blockV_apart (keepH X8.out hn8) (.inr (by omega)) HG.out hg9'
                  have M9 := hidT (blockV_apart (keepH M8.out hn8) (.inr (by omega)) HG.out hg9')
                  have b19 : Below w1.heap.size w1 w9 := (b18.trans (hn8.mono b18.size)).trans (hb9.mono (by omega))
                  obtain ⟨k0, k1, k2, k3⟩ := cells4 y9
                  obtain ⟨l0, l1, l2, l3⟩ := cells4 x9
                  have fz := no_frozen x9
                  have X9 := hidT x9
                  clear ho9 hrd9 hg9' y9 x9)
                obtain ⟨xa, butA, belA⟩ := set4 X9.out (.int .i64 0) (.int .i64 0) (.int .i64 0) (.slice A5 n5 c5)
                refine ⟨⟨j + 1, A11, k + 1, c11, gs ++ [⟨B5, m5, d5, l⟩], A5, n5, c5, none_, by omega, by go_num, rfl, ?_, hidT ?_, hidT (by rw [if_pos hlast]), hidT xa, hidT (R8.out.any0 _), hidT (OwnV.but ?_ (by omega) butA), hidT (fun r hr => (HQ9.out r hr).but (by omega) butA), hidT ((butA.2 _ (by omega)).trans M9.out), hidT (fun h => absurd h (by omega)), belA _ _ b19 (Nat.le_refl _)⟩, by simp [intOf]; omega⟩
                · congr 1; omega
                · rw [if_pos hlast]; exact ⟨rfl, by rw [List.map_append, HGB.out, List.take_add_one, HLL.out]; rfl⟩
                · rw [List.map_append]; exact HO9.out
          · rw [if_neg hlast, partAt_next, show ((j + 1 : Nat) : Int) = (j : Int) + 1 from by omega] at hstep
            have HST := hidT hstep
            clear hstep
            go_wp2_with fail
            go_region_held_law (fun w' => Below wr.heap.size wr w')
              (first | exact (Below.refl _ _).drew | exact hbF | exact hb4 | exact D1.drew | exact D1 | exact bthen hb4 (nkeep _ _))
              (first
                | (go_at_call 11; ((with_reducible refine (HA1.out _ (Below.refl _ _).drew).mono ?_); rintro e4 w4 ⟨A4, n4, c4, B4, m4, d4, rfl, hr4, hs4, hb4'⟩; have hb4 : Below wr.heap.size wr w4 := undrew hb4'; dsimp only at hr4 hs4 ⊢))
                | (go_at_call 11; ((with_reducible refine (HA1.out _ D1.drew).mono ?_); rintro e4 w4 ⟨A4, n4, c4, B4, m4, d4, rfl, hr4, hs4, hb4'⟩; have hb4 : Below wr.heap.size wr w4 := bthen D1 (undrew hb4'); have y4 := keepH (alloc_at wr (.cells #[.int .i64 0, .int .i64 0, .int .i64 0, .slice none 0 0] 24) _ rfl) (undrew hb4'); obtain ⟨i0, i1, i2, i3⟩ := cells4 y4; have f0 := no_frozen y4 0; have f1 := no_frozen y4 1; have f2 := no_frozen y4 2; have f3 := no_frozen y4 3; have hbF : Below wr.heap.size wr ((((w4.setCell ⟨wr.heap.size, 0, none⟩ (.int .i64 pj.seq)).setCell ⟨wr.heap.size, 1, none⟩ (.int .i64 pj.total)).setCell ⟨wr.heap.size, 2, none⟩ (.int .i64 pj.got)).setCell ⟨wr.heap.size, 3, none⟩ (.slice A4 n4 c4)) := (set4 y4 _ _ _ _).2.2 _ _ hb4 (Nat.le_refl _); dsimp only at hr4 hs4 ⊢))
                | fail)
            · have hb5 := bthen hb4 (nkeep w4 (.cells #[.int .i64 pj.seq, .int .i64 pj.total, .int .i64 pj.got, .slice A4 n4 c4] 24))
              clear hr4 hs4 hb4' kx0 kx1 kx2 kx3 kr HA1
              generalize w4.alloc (.cells #[.int .i64 pj.seq, .int .i64 pj.total, .int .i64 pj.got, .slice A4 n4 c4] 24) = W5 at hb5 ⊢
              generalize (Value.tuple #[.agg #[.int .i64 pj.seq, .int .i64 pj.total, .int .i64 pj.got, .slice A4 n4 c4], .slice B4 m4 d4, .bool false, .int .i64 2]) = dead1
              generalize (Value.agg #[.int .i64 pj.seq, .int .i64 pj.total, .int .i64 pj.got, .slice A4 n4 c4]) = dead2
              have HA2 : Hid (∀ w', Below W5.heap.size W5 w' → Calls Try.prog 11 #[.agg #[.int .i64 pj.seq, .int .i64 pj.total, .int .i64 pj.got, .slice A6 n6 c6], .int .i64 (sq + (j : Int)), .int .i64 (j : Int), .int .i64 (K : Int), .slice r.A r.n r.c] w' (AddIsO w' ⟨⟨sq, (K : Int), (j : Int) + 1, catB rs (j + 1)⟩, [], false, 0⟩)) := by
                refine hidT fun w' hb => ?_
                have := add_anyO pj A6 n6 c6 (sq + (j : Int)) (j : Int) (K : Int) r.A r.n r.c r.b w' (HR6.out.below (bthen hb5 hb)) (HRD.out.below (bthen hb5 hb)) (by omega) (by omega)
                rw [HST.out] at this
                exact this
              have kx0 := fun w' (hb : Below W5.heap.size W5 w') => (cells4 (keepH HX.out (bthen hb5 hb))).1
              have kx1 := fun w' (hb : Below W5.heap.size W5 w') => (cells4 (keepH HX.out (bthen hb5 hb))).2.1
              have kx2 := fun w' (hb : Below W5.heap.size W5 w') => (cells4 (keepH HX.out (bthen hb5 hb))).2.2.1
              have kx3 := fun w' (hb : Below W5.heap.size W5 w') => (cells4 (keepH HX.out (bthen hb5 hb))).2.2.2
              have kr := fun w' (hb : Below W5.heap.size W5 w') => HCE.out w' (bthen hb5 hb)
              have D2 : Below W5.heap.size W5 (W5.alloc (.cells #[.int .i64 0, .int .i64 0, .int .i64 0, .slice none 0 0] 24)) := nkeep W5 _
              have hl5 := hb5.size
              go_wp2_with fail
              go_region_held_law (fun w' => Below W5.heap.size W5 w')
                (first | exact (Below.refl _ _).drew | exact hbG | exact hb7 | exact D2.drew | exact D2 | exact bthen hb7 (nkeep _ _))
                (first
                  | (go_at_call 11; ((with_reducible refine (HA2.out _ (Below.refl _ _).drew).mono ?_); rintro e5 w7 ⟨A5, n5, c5, B5, m5, d5, rfl, hr5, hs5, hb7', ha5⟩; have hb7 : Below W5.heap.size W5 w7 := undrew hb7'; dsimp only [none_] at hr5 hs5 ⊢))
                  | (go_at_call 11; ((with_reducible refine (HA2.out _ D2.drew).mono ?_); rintro e5 w7 ⟨A5, n5, c5, B5, m5, d5, rfl, hr5, hs5, hb7', ha5⟩; have hb7 : Below W5.heap.size W5 w7 := bthen D2 (undrew hb7'); have y7 := keepH (alloc_at W5 (.cells #[.int .i64 0, .int .i64 0, .int .i64 0, .slice none 0 0] 24) _ rfl) (undrew hb7'); obtain ⟨i0, i1, i2, i3⟩ := cells4 y7; have f0 := no_frozen y7 0; have f1 := no_frozen y7 1; have f2 := no_frozen y7 2; have f3 := no_frozen y7 3; have hbG : Below W5.heap.size W5 ((((w7.setCell ⟨W5.heap.size, 0, none⟩ (.int .i64 sq)).setCell ⟨W5.heap.size, 1, none⟩ (.int .i64 (K : Int))).setCell ⟨W5.heap.size, 2, none⟩ (.int .i64 ((j : Int) + 1))).setCell ⟨W5.heap.size, 3, none⟩ (.slice A5 n5 c5)) := (set4 y7 _ _ _ _).2.2 _ _ hb7 (Nat.le_refl _); dsimp only [none_] at hr5 hs5 ⊢))
                  | fail)
              · have y8 := alloc_at w7 (.cells #[.int .i64 sq, .int .i64 (K : Int), .int .i64 ((j : Int) + 1), .slice A5 n5 c5] 24) _ rfl
                have r8 := hr5.alloc (.cells #[.int .i64 sq, .int .i64 (K : Int), .int .i64 ((j : Int) + 1), .slice A5 n5 c5] 24)
                have o8 := Own.mono (base' := W5.heap.size) (hs5.later (nkeep w7 (.cells #[.int .i64 sq, .int .i64 (K : Int), .int .i64 ((j : Int) + 1), .slice A5 n5 c5] 24))) (Nat.le_refl _)
                have hb8 := bthen hb7 (nkeep w7 (.cells #[.int .i64 sq, .int .i64 (K : Int), .int .i64 ((j : Int) + 1), .slice A5 n5 c5] 24))
                have hgx : W5.heap.size ≤ w7.heap.size := hb7.size
                have ha8 : ∀ b o, A5 = some ⟨b, o, none⟩ → W5.heap.size ≤ b := fun b o hA => ha5 b o hA
                clear hr5 ha5 hs5 hb7'
                generalize w7.alloc (.cells #[.int .i64 sq, .int .i64 (K : Int), .int .i64 ((j : Int) + 1), .slice A5 n5 c5] 24) = W8 at r8 o8 y8 hb8 ⊢
                have b58 := bthen hb5 hb8
                have x8 := keepH HX.out b58
                have X8 := hidT x8
                have Y8 := hidT y8
                have R8 := hidT r8
                have O8 := hidT o8
                have M8 := hidT (keepH HM.out b58)
                have G8 := hidT (OwnV.later HG.out b58)
                have Q8 := hidT (HQ.out.later b58)
                have b18 : Below w1.heap.size w1 W8 := hbr.trans (b58.mono hbr.size)
                have hg9 := blk_lt HX.out
                have hg8 := b58.size
                clear kx0 kx1 kx2 kx3 kr y8 r8 o8 x8
                obtain ⟨k0, k1, k2, k3⟩ := cells4 Y8.out
                obtain ⟨l0, l1, l2, l3⟩ := cells4 X8.out
                have fz := no_frozen X8.out
                go_wp2
                obtain ⟨xa, butA, belA⟩ := set4 X8.out (.int .i64 sq) (.int .i64 (K : Int)) (.int .i64 ((j : Int) + 1)) (.slice A5 n5 c5)
                refine ⟨⟨j + 1, A10, k, c10, gs, A5, n5, c5, ⟨sq, (K : Int), (j : Int) + 1, catB rs (j + 1)⟩, by omega, by go_num, rfl, ?_, hidT ?_, hidT ?_, hidT xa, hidT (R8.out.but (fun b o hA => ?_) butA), hidT (OwnV.but G8.out (by omega) butA), hidT (fun r hr => (Q8.out r hr).but (by omega) butA), hidT ((butA.2 _ (by omega)).trans M8.out), hidT (fun _ => ⟨OwnV.but (OwnV.later HL6.out.1 b58) (by omega) butA, fun r hr => ((HL6.out.2 r hr).below b58).but (fun b o hA => ?_) butA⟩), belA _ _ b18 (Nat.le_refl _)⟩, by simp [intOf]; omega⟩
                · congr 1; omega
                · rw [if_neg (by omega)]; exact ⟨rfl, HGB.out⟩
                · rw [if_neg (by omega), partAt_next, show ((j + 1 : Nat) : Int) = (j : Int) + 1 from by omega]
                · have h1 := ha8 b o hA
                  omega
                · have h1 := HFR.out r hr b o hA
                  omega
              · have s4 := set4 y7 (.int .i64 sq) (.int .i64 (K : Int)) (.int .i64 ((j : Int) + 1)) (.slice A5 n5 c5)
                have hza := size_alloc W5 (.cells #[.int .i64 0, .int .i64 0, .int .i64 0, .slice none 0 0] 24)
                have r8 := hr5.but (fun b o hA => by have h1 := ha5 b o hA; have h2 : (W5.alloc (.cells #[.int .i64 0, .int .i64 0, .int .i64 0, .slice none 0 0] 24)).heap.size ≤ b := h1; omega) s4.2.1
                have o8 := Own.mono (base' := W5.heap.size) (hs5.but (show W5.heap.size < (W5.alloc (.cells #[.int .i64 0, .int .i64 0, .int .i64 0, .slice none 0 0] 24)).heap.size by omega) s4.2.1) (show W5.heap.size ≤ (W5.alloc (.cells #[.int .i64 0, .int .i64 0, .int .i64 0, .slice none 0 0] 24)).heap.size by omega)
                have y8 := s4.1
                have hb8 := hbG
                have hgx : W5.heap.size ≤ W5.heap.size := Nat.le_refl _
                have ha8 : ∀ b o, A5 = some ⟨b, o, none⟩ → W5.heap.size ≤ b := fun b o hA => by have h1 := ha5 b o hA; have h2 : (W5.alloc (.cells #[.int .i64 0, .int .i64 0, .int .i64 0, .slice none 0 0] 24)).heap.size ≤ b := h1; omega
                clear s4 hza hbG i0 i1 i2 i3 f0 f1 f2 f3 y7 hr5 ha5 hs5 hb7'
                generalize ((((w7.setCell ⟨W5.heap.size, 0, none⟩ (.int .i64 sq)).setCell ⟨W5.heap.size, 1, none⟩ (.int .i64 (K : Int))).setCell ⟨W5.heap.size, 2, none⟩ (.int .i64 ((j : Int) + 1))).setCell ⟨W5.heap.size, 3, none⟩ (.slice A5 n5 c5)) = W8 at r8 o8 y8 hb8 ⊢
                have b58 := bthen hb5 hb8
                have x8 := keepH HX.out b58
                have X8 := hidT x8
                have Y8 := hidT y8
                have R8 := hidT r8
                have O8 := hidT o8
                have M8 := hidT (keepH HM.out b58)
                have G8 := hidT (OwnV.later HG.out b58)
                have Q8 := hidT (HQ.out.later b58)
                have b18 : Below w1.heap.size w1 W8 := hbr.trans (b58.mono hbr.size)
                have hg9 := blk_lt HX.out
                have hg8 := b58.size
                clear kx0 kx1 kx2 kx3 kr y8 r8 o8 x8
                obtain ⟨k0, k1, k2, k3⟩ := cells4 Y8.out
                obtain ⟨l0, l1, l2, l3⟩ := cells4 X8.out
                have fz := no_frozen X8.out
                go_wp2
                obtain ⟨xa, butA, belA⟩ := set4 X8.out (.int .i64 sq) (.int .i64 (K : Int)) (.int .i64 ((j : Int) + 1)) (.slice A5 n5 c5)
                refine ⟨⟨j + 1, A10, k, c10, gs, A5, n5, c5, ⟨sq, (K : Int), (j : Int) + 1, catB rs (j + 1)⟩, by omega, by go_num, rfl, ?_, hidT ?_, hidT ?_, hidT xa, hidT (R8.out.but (fun b o hA => ?_) butA), hidT (OwnV.but G8.out (by omega) butA), hidT (fun r hr => (Q8.out r hr).but (by omega) butA), hidT ((butA.2 _ (by omega)).trans M8.out), hidT (fun _ => ⟨OwnV.but (OwnV.later HL6.out.1 b58) (by omega) butA, fun r hr => ((HL6.out.2 r hr).below b58).but (fun b o hA => ?_) butA⟩), belA _ _ b18 (Nat.le_refl _)⟩, by simp [intOf]; omega⟩
                · congr 1; omega
                · rw [if_neg (by omega)]; exact ⟨rfl, HGB.out⟩
                · rw [if_neg (by omega), partAt_next, show ((j + 1 : Nat) : Int) = (j : Int) + 1 from by omega]
                · have h1 := ha8 b o hA
                  omega
                · have h1 := HFR.out r hr b o hA
                  omega
            · have hb5 := hbF
              clear hbF i0 i1 i2 i3 f0 f1 f2 f3 y4 hr4 hs4 hb4' kx0 kx1 kx2 kx3 kr HA1
              generalize ((((w4.setCell ⟨wr.heap.size, 0, none⟩ (.int .i64 pj.seq)).setCell ⟨wr.heap.size, 1, none⟩ (.int .i64 pj.total)).setCell ⟨wr.heap.size, 2, none⟩ (.int .i64 pj.got)).setCell ⟨wr.heap.size, 3, none⟩ (.slice A4 n4 c4)) = W5 at hb5 ⊢
              generalize (Value.tuple #[.agg #[.int .i64 pj.seq, .int .i64 pj.total, .int .i64 pj.got, .slice A4 n4 c4], .slice B4 m4 d4, .bool false, .int .i64 2]) = dead1
              generalize (Value.agg #[.int .i64 pj.seq, .int .i64 pj.total, .int .i64 pj.got, .slice A4 n4 c4]) = dead2
              have HA2 : Hid (∀ w', Below W5.heap.size W5 w' → Calls Try.prog 11 #[.agg #[.int .i64 pj.seq, .int .i64 pj.total, .int .i64 pj.got, .slice A6 n6 c6], .int .i64 (sq + (j : Int)), .int .i64 (j : Int), .int .i64 (K : Int), .slice r.A r.n r.c] w' (AddIsO w' ⟨⟨sq, (K : Int), (j : Int) + 1, catB rs (j + 1)⟩, [], false, 0⟩)) := by
                refine hidT fun w' hb => ?_
                have := add_anyO pj A6 n6 c6 (sq + (j : Int)) (j : Int) (K : Int) r.A r.n r.c r.b w' (HR6.out.below (bthen hb5 hb)) (HRD.out.below (bthen hb5 hb)) (by omega) (by omega)
                rw [HST.out] at this
                exact this
              have kx0 := fun w' (hb : Below W5.heap.size W5 w') => (cells4 (keepH HX.out (bthen hb5 hb))).1
              have kx1 := fun w' (hb : Below W5.heap.size W5 w') => (cells4 (keepH HX.out (bthen hb5 hb))).2.1
              have kx2 := fun w' (hb : Below W5.heap.size W5 w') => (cells4 (keepH HX.out (bthen hb5 hb))).2.2.1
              have kx3 := fun w' (hb : Below W5.heap.size W5 w') => (cells4 (keepH HX.out (bthen hb5 hb))).2.2.2
              have kr := fun w' (hb : Below W5.heap.size W5 w') => HCE.out w' (bthen hb5 hb)
              have D2 : Below W5.heap.size W5 (W5.alloc (.cells #[.int .i64 0, .int .i64 0, .int .i64 0, .slice none 0 0] 24)) := nkeep W5 _
              have hl5 := hb5.size
              go_wp2_with fail
              go_region_held_law (fun w' => Below W5.heap.size W5 w')
                (first | exact (Below.refl _ _).drew | exact hbG | exact hb7 | exact D2.drew | exact D2 | exact bthen hb7 (nkeep _ _))
                (first
                  | (go_at_call 11; ((with_reducible refine (HA2.out _ (Below.refl _ _).drew).mono ?_); rintro e5 w7 ⟨A5, n5, c5, B5, m5, d5, rfl, hr5, hs5, hb7', ha5⟩; have hb7 : Below W5.heap.size W5 w7 := undrew hb7'; dsimp only [none_] at hr5 hs5 ⊢))
                  | (go_at_call 11; ((with_reducible refine (HA2.out _ D2.drew).mono ?_); rintro e5 w7 ⟨A5, n5, c5, B5, m5, d5, rfl, hr5, hs5, hb7', ha5⟩; have hb7 : Below W5.heap.size W5 w7 := bthen D2 (undrew hb7'); have y7 := keepH (alloc_at W5 (.cells #[.int .i64 0, .int .i64 0, .int .i64 0, .slice none 0 0] 24) _ rfl) (undrew hb7'); obtain ⟨i0, i1, i2, i3⟩ := cells4 y7; have f0 := no_frozen y7 0; have f1 := no_frozen y7 1; have f2 := no_frozen y7 2; have f3 := no_frozen y7 3; have hbG : Below W5.heap.size W5 ((((w7.setCell ⟨W5.heap.size, 0, none⟩ (.int .i64 sq)).setCell ⟨W5.heap.size, 1, none⟩ (.int .i64 (K : Int))).setCell ⟨W5.heap.size, 2, none⟩ (.int .i64 ((j : Int) + 1))).setCell ⟨W5.heap.size, 3, none⟩ (.slice A5 n5 c5)) := (set4 y7 _ _ _ _).2.2 _ _ hb7 (Nat.le_refl _); dsimp only [none_] at hr5 hs5 ⊢))
                  | fail)
              · have y8 := alloc_at w7 (.cells #[.int .i64 sq, .int .i64 (K : Int), .int .i64 ((j : Int) + 1), .slice A5 n5 c5] 24) _ rfl
                have r8 := hr5.alloc (.cells #[.int .i64 sq, .int .i64 (K : Int), .int .i64 ((j : Int) + 1), .slice A5 n5 c5] 24)
                have o8 := Own.mono (base' := W5.heap.size) (hs5.later (nkeep w7 (.cells #[.int .i64 sq, .int .i64 (K : Int), .int .i64 ((j : Int) + 1), .slice A5 n5 c5] 24))) (Nat.le_refl _)
                have hb8 := bthen hb7 (nkeep w7 (.cells #[.int .i64 sq, .int .i64 (K : Int), .int .i64 ((j : Int) + 1), .slice A5 n5 c5] 24))
                have hgx : W5.heap.size ≤ w7.heap.size := hb7.size
                have ha8 : ∀ b o, A5 = some ⟨b, o, none⟩ → W5.heap.size ≤ b := fun b o hA => ha5 b o hA
                clear hr5 ha5 hs5 hb7'
                generalize w7.alloc (.cells #[.int .i64 sq, .int .i64 (K : Int), .int .i64 ((j : Int) + 1), .slice A5 n5 c5] 24) = W8 at r8 o8 y8 hb8 ⊢
                have b58 := bthen hb5 hb8
                have x8 := keepH HX.out b58
                have X8 := hidT x8
                have Y8 := hidT y8
                have R8 := hidT r8
                have O8 := hidT o8
                have M8 := hidT (keepH HM.out b58)
                have G8 := hidT (OwnV.later HG.out b58)
                have Q8 := hidT (HQ.out.later b58)
                have b18 : Below w1.heap.size w1 W8 := hbr.trans (b58.mono hbr.size)
                have hg9 := blk_lt HX.out
                have hg8 := b58.size
                clear kx0 kx1 kx2 kx3 kr y8 r8 o8 x8
                obtain ⟨k0, k1, k2, k3⟩ := cells4 Y8.out
                obtain ⟨l0, l1, l2, l3⟩ := cells4 X8.out
                have fz := no_frozen X8.out
                go_wp2
                obtain ⟨xa, butA, belA⟩ := set4 X8.out (.int .i64 sq) (.int .i64 (K : Int)) (.int .i64 ((j : Int) + 1)) (.slice A5 n5 c5)
                refine ⟨⟨j + 1, A10, k, c10, gs, A5, n5, c5, ⟨sq, (K : Int), (j : Int) + 1, catB rs (j + 1)⟩, by omega, by go_num, rfl, ?_, hidT ?_, hidT ?_, hidT xa, hidT (R8.out.but (fun b o hA => ?_) butA), hidT (OwnV.but G8.out (by omega) butA), hidT (fun r hr => (Q8.out r hr).but (by omega) butA), hidT ((butA.2 _ (by omega)).trans M8.out), hidT (fun _ => ⟨OwnV.but (OwnV.later HL6.out.1 b58) (by omega) butA, fun r hr => ((HL6.out.2 r hr).below b58).but (fun b o hA => ?_) butA⟩), belA _ _ b18 (Nat.le_refl _)⟩, by simp [intOf]; omega⟩
                · congr 1; omega
                · rw [if_neg (by omega)]; exact ⟨rfl, HGB.out⟩
                · rw [if_neg (by omega), partAt_next, show ((j + 1 : Nat) : Int) = (j : Int) + 1 from by omega]
                · have h1 := ha8 b o hA
                  omega
                · have h1 := HFR.out r hr b o hA
                  omega
              · have s4 := set4 y7 (.int .i64 sq) (.int .i64 (K : Int)) (.int .i64 ((j : Int) + 1)) (.slice A5 n5 c5)
                have hza := size_alloc W5 (.cells #[.int .i64 0, .int .i64 0, .int .i64 0, .slice none 0 0] 24)
                have r8 := hr5.but (fun b o hA => by have h1 := ha5 b o hA; have h2 : (W5.alloc (.cells #[.int .i64 0, .int .i64 0, .int .i64 0, .slice none 0 0] 24)).heap.size ≤ b := h1; omega) s4.2.1
                have o8 := Own.mono (base' := W5.heap.size) (hs5.but (show W5.heap.size < (W5.alloc (.cells #[.int .i64 0, .int .i64 0, .int .i64 0, .slice none 0 0] 24)).heap.size by omega) s4.2.1) (show W5.heap.size ≤ (W5.alloc (.cells #[.int .i64 0, .int .i64 0, .int .i64 0, .slice none 0 0] 24)).heap.size by omega)
                have y8 := s4.1
                have hb8 := hbG
                have hgx : W5.heap.size ≤ W5.heap.size := Nat.le_refl _
                have ha8 : ∀ b o, A5 = some ⟨b, o, none⟩ → W5.heap.size ≤ b := fun b o hA => by have h1 := ha5 b o hA; have h2 : (W5.alloc (.cells #[.int .i64 0, .int .i64 0, .int .i64 0, .slice none 0 0] 24)).heap.size ≤ b := h1; omega
                clear s4 hza hbG i0 i1 i2 i3 f0 f1 f2 f3 y7 hr5 ha5 hs5 hb7'
                generalize ((((w7.setCell ⟨W5.heap.size, 0, none⟩ (.int .i64 sq)).setCell ⟨W5.heap.size, 1, none⟩ (.int .i64 (K : Int))).setCell ⟨W5.heap.size, 2, none⟩ (.int .i64 ((j : Int) + 1))).setCell ⟨W5.heap.size, 3, none⟩ (.slice A5 n5 c5)) = W8 at r8 o8 y8 hb8 ⊢
                have b58 := bthen hb5 hb8
                have x8 := keepH HX.out b58
                have X8 := hidT x8
                have Y8 := hidT y8
                have R8 := hidT r8
                have O8 := hidT o8
                have M8 := hidT (keepH HM.out b58)
                have G8 := hidT (OwnV.later HG.out b58)
                have Q8 := hidT (HQ.out.later b58)
                have b18 : Below w1.heap.size w1 W8 := hbr.trans (b58.mono hbr.size)
                have hg9 := blk_lt HX.out
                have hg8 := b58.size
                clear kx0 kx1 kx2 kx3 kr y8 r8 o8 x8
                obtain ⟨k0, k1, k2, k3⟩ := cells4 Y8.out
                obtain ⟨l0, l1, l2, l3⟩ := cells4 X8.out
                have fz := no_frozen X8.out
                go_wp2
                obtain ⟨xa, butA, belA⟩ := set4 X8.out (.int .i64 sq) (.int .i64 (K : Int)) (.int .i64 ((j : Int) + 1)) (.slice A5 n5 c5)
                refine ⟨⟨j + 1, A10, k, c10, gs, A5, n5, c5, ⟨sq, (K : Int), (j : Int) + 1, catB rs (j + 1)⟩, by omega, by go_num, rfl, ?_, hidT ?_, hidT ?_, hidT xa, hidT (R8.out.but (fun b o hA => ?_) butA), hidT (OwnV.but G8.out (by omega) butA), hidT (fun r hr => (Q8.out r hr).but (by omega) butA), hidT ((butA.2 _ (by omega)).trans M8.out), hidT (fun _ => ⟨OwnV.but (OwnV.later HL6.out.1 b58) (by omega) butA, fun r hr => ((HL6.out.2 r hr).below b58).but (fun b o hA => ?_) butA⟩), belA _ _ b18 (Nat.le_refl _)⟩, by simp [intOf]; omega⟩
                · congr 1; omega
                · rw [if_neg (by omega)]; exact ⟨rfl, HGB.out⟩
                · rw [if_neg (by omega), partAt_next, show ((j + 1 : Nat) : Int) = (j : Int) + 1 from by omega]
                · have h1 := ha8 b o hA
                  omega
                · have h1 := HFR.out r hr b o hA
                  omega
        · obtain rfl : j = K := by omega
          obtain ⟨hk1, hgb⟩ : k + 1 = k1 ∧ gs.map Bw.b = [la, lb].take (k + 1) := by have := HIF.out; rwa [if_pos rfl] at this
          subst hk1
          obtain rfl : none_ = pj := by have := HPJ.out; rwa [if_pos rfl] at this
          go_wp2
          exact ⟨⟨k + 1, A10, c10, gs, sq + (j : Int), A6, n6, c6, by omega, by go_num, rfl, rfl, ⟨by omega, by omega⟩, HG, HQ, hidT hgb, hidT HX.out, hidT HR6.out, HM, hszr, hbr⟩, by simp [intOf]; omega⟩
    · obtain rfl : k = 2 := by omega
      have hgb : gs.map Bw.b = [la, lb] := HGB.out
      have hR1 : RdB wr A10 2 c10 gs := ⟨OwnV.same HG.out, fun r hr => Own.same (HQ.out r hr)⟩
      have hbw := bthen hb1 hbo
      have hR2 : RdB wr (some ⟨w1.heap.size + 1, 0, none⟩) 2 2 [⟨A0, n0, c0, la⟩, ⟨A1, n1, c1, lb⟩] := by
        refine ⟨⟨rfl, Nat.le_refl _, by simp only [maxLen]; omega, (fun h => by cases h), fun _ => ⟨_, _, rfl, fun i u hu => ?_⟩⟩, fun r hr => ?_⟩
        · rw [Nat.zero_add]
          exact cell_at HM.out i (by simpa [Bw.val] using hu)
        · simp only [List.mem_cons, List.not_mem_nil, or_false] at hr
          rcases hr with rfl | rfl
          · exact H0.out.below hbw
          · exact H1.out.below hbw
      have hp := rpieces_any A10 2 c10 gs (some ⟨w1.heap.size + 1, 0, none⟩) 2 2 _ wr hR1 hR2 true (by rw [hgb]; simp)
      clear hgb hR1 hR2
      go_wp2_with fail
      with_reducible refine hp.mono ?_
      rintro e w3 ⟨rfl, hb3⟩
      go_wp2
      go_ret
      exact ⟨rfl, bthen hbw hb3⟩

theorem ftwo_any (A0 : Option Addr) (n0 c0 : Nat) (la : List UInt8) (A1 : Option Addr) (n1 c1 : Nat) (lb : List UInt8) (t : Nat) (w : World) (h0 : Rd w A0 n0 c0 la) (h1 : Rd w A1 n1 c1 lb) (ht : t < 256) :
    Calls Try.prog 8 #[.slice A0 n0 c0, .slice A1 n1 c1, .int .u8 (t : Int)] w (Yes w) := by
  by_cases g0 : n0 ≤ 32 * (1 + t % 60)
  · by_cases g1 : n1 ≤ 32 * (1 + t % 60)
    · by_cases g2 : n0 + n1 ≤ 2000
      · exact ftwo_in A0 n0 c0 la A1 n1 c1 lb t (1 + t % 60) w h0 h1 ht rfl g0 g1 g2
      · exact ftwo_out A0 n0 c0 la A1 n1 c1 lb t (1 + t % 60) w h0 h1 ht rfl (.inr (.inr ⟨g0, g1, by omega⟩))
    · exact ftwo_out A0 n0 c0 la A1 n1 c1 lb t (1 + t % 60) w h0 h1 ht rfl (.inr (.inl ⟨g0, by omega⟩))
  · exact ftwo_out A0 n0 c0 la A1 n1 c1 lb t (1 + t % 60) w h0 h1 ht rfl (.inl (by omega))
end Go.Proofs.Ytapdlcfaghbjhaa
