/- The law KeepMany, walked. -/
import Derived.Test.YtgnaecifinlnmaaKeepL4
set_option maxRecDepth 100000
namespace Go.Proofs.Ytgnaecifinlnmaa
open Go.RowKit
set_option linter.unusedVariables false

theorem FrK.size {w : World} {lo : Nat} {A : Option Addr} {n c : Nat} {k : Keep.Kp} (h : FrK w lo (.agg #[.int .i64 k.next, .slice A n c]) k) : k.l.length = n := by
  obtain ⟨A', n', c', us, e, h1, _, h3⟩ := h
  injection e with e
  simp only [Array.mk.injEq, List.cons.injEq, Value.slice.injEq, true_and, and_true] at e
  obtain ⟨_, rfl, _⟩ := e
  rw [← h3.1]; exact h1.size
theorem FrK.new (w : World) (lo : Nat) : FrK w lo (.agg #[.int .i64 1, .slice none 0 0]) ⟨1, Keep.toks 1 1⟩ := ⟨none, 0, 0, [], rfl, RdK.nil_ 8 w, (fun _ _ h => by cases h), by rw [Keep.toks_none]; exact ⟨rfl, fun i r x h => by simp at h⟩⟩
theorem Rd.byte {w : World} {A : Option Addr} {m c : Nat} {fs : List UInt8} (h : Rd w A m c fs) {j : Nat} (hj : j < m) : ∃ b o x, A = some ⟨b, o, none⟩ ∧ fs[j]? = some x ∧ ∀ w', Below w.heap.size w w' → w'.cell? ⟨b, o + j, none⟩ = some (.int .u8 (UInt8.toNat x : Int)) := by
  obtain ⟨b, o, rfl, _⟩ := h.2.2.2.2 (by omega)
  have hx := List.getElem?_eq_getElem (show j < fs.length by rw [h.1]; exact hj)
  exact ⟨b, o, _, rfl, hx, cells_later h hx⟩
/-- Pushed: one more, or as it was. -/
theorem push_yes {low next N S : Int} (h0 : 1 ≤ low) (h1 : low ≤ next) (hf : next ≤ 4611686018427387904) (hN : 0 ≤ N ∧ N ≤ 64) (hS : 0 ≤ S ∧ S ≤ 64) (hr : 0 < N - S - (next - low)) : Keep.push ⟨next, Keep.toks low next⟩ (Keep.tok 0) N S = ⟨⟨next + 1, Keep.toks low (next + 1)⟩, Keep.tok next, 0⟩ := by
  rw [Keep.push_toks h0 h1 hf, Keep.room_toks h1 hN hS hf, if_neg (by rw [if_neg (by omega)]; omega)]
theorem push_no {low next N S : Int} (h0 : 1 ≤ low) (h1 : low ≤ next) (hf : next ≤ 4611686018427387904) (hN : 0 ≤ N ∧ N ≤ 64) (hS : 0 ≤ S ∧ S ≤ 64) (hr : N - S - (next - low) ≤ 0) : Keep.push ⟨next, Keep.toks low next⟩ (Keep.tok 0) N S = ⟨⟨next, Keep.toks low next⟩, Item.It.zero, 4⟩ := by
  rw [Keep.push_toks h0 h1 hf, Keep.room_toks h1 hN hS hf, if_pos (by split <;> omega)]

set_option maxHeartbeats 8000000 in
theorem kmany_any (p q : Int) (A : Option Addr) (m c : Nat) (fs : List UInt8) (w : World) (hA : Rd w A m c fs) (hp : 0 ≤ p ∧ p < 256) (hq : 0 ≤ q ∧ q < 256) :
    Calls Try.prog 5 #[.int .u8 p, .int .u8 q, .slice A m c] w (Yes w) := by
  have hm := hA.le
  have HA := hidT hA
  obtain ⟨hp0, hp1⟩ := hp
  obtain ⟨hq0, hq1⟩ := hq
  have e1 : Int.tmod p 65 = p % 65 := Int.tmod_eq_emod_of_nonneg hp0
  have e2 : Int.tmod q 10 = q % 10 := Int.tmod_eq_emod_of_nonneg hq0
  obtain ⟨N, hN⟩ : ∃ N, p % 65 = N := ⟨_, rfl⟩
  obtain ⟨S, hS⟩ : ∃ S, q % 10 = S := ⟨_, rfl⟩
  have N0 : 0 ≤ N := by omega
  have N1 : N ≤ 64 := by omega
  have S0 : 0 ≤ S := by omega
  have S1 : S < 10 := by omega
  rw [hN] at e1
  rw [hS] at e2
  clear hA
  go_enter Try.func5, Try.ntmps5
  go_wp2_with fail
  with_reducible refine (kshown_any _).mono ?_
  rintro e w1 ⟨rfl, hb1⟩
  by_cases h20 : m ≤ 20
  · have t1 : decide (20 < m) = false := by simpa using h20
    have t2 : decide ((20 : Int) < (m : Int)) = false := by simp; omega
    go_wp2_with fail
    with_reducible refine (new_any _).mono ?_
    rintro e w2 ⟨rfl, hb2⟩
    have z1 := alloc_at w2 (.cells #[.int .i64 1, .slice none 0 0] 24) _ rfl
    have z3 := nkeep w2 (.cells #[.int .i64 1, .slice none 0 0] 24)
    have hbw := bthen hb1 (bthen hb2 z3)
    have hsz := size_alloc w2 (.cells #[.int .i64 1, .slice none 0 0] 24)
    obtain ⟨g, hg⟩ : ∃ g, w2.heap.size = g := ⟨_, rfl⟩
    rw [hg] at z1 hsz
    have hgw : w.heap.size ≤ g := by have := (bthen hb1 hb2).size; omega
    obtain ⟨W, hW⟩ : ∃ W, w2.alloc (.cells #[.int .i64 1, .slice none 0 0] 24) = W := ⟨_, rfl⟩
    rw [hW] at z1 hbw hsz
    have Z0 := hidT z1
    have HB0 := hidT hbw
    have HW := hidT hW
    have HGW := hidT hgw
    clear z1 z3 hbw hW hb1 hb2 hN hS e1 e2 hp0 hp1 hq0 hq1 hsz hgw t1 t2
    go_wp2_with fail
    rw [HW.out]
    clear hg
    go_loopw [11, 12, 13] (fun nx lo rd wr => ∃ (next low : Int) (j : Nat) (B : Option Addr) (n d : Nat), nx = .int .i64 next ∧ lo = .int .i64 low ∧ rd = .int .i64 j ∧ j ≤ m + 1 ∧ 1 ≤ low ∧ low ≤ next ∧ next - low ≤ 64 ∧ next ≤ 1 + 64 * (j : Int) ∧
        Hid (wr.heap[g]? = some (.cells #[.int .i64 next, .slice B n d] 24 (0, 0))) ∧ Hid (FrK wr (g + 1) (.agg #[.int .i64 next, .slice B n d]) ⟨next, Keep.toks low next⟩) ∧ Hid (Below w.heap.size w wr)) (fun _ _ rd _ => m + 1 - (intOf rd).toNat)
    case atStart => exact ⟨1, 1, 0, none, 0, 0, rfl, rfl, rfl, by omega, by omega, by omega, by omega, by omega, hidT Z0.out, hidT (FrK.new _ _), hidT HB0.out⟩
    case round =>
      obtain ⟨next, low, j, B, n, d, rfl, rfl, rfl, hj, hl1, hl2, hl3, hnx, XG, XK, XB⟩ := hrel
      obtain ⟨i0, i1⟩ := cells2 XG.out
      by_cases hjm : j ≤ m
      · have u1 : decide (j ≤ m) = true := by simpa using hjm
        have u2 : decide ((j : Int) ≤ (m : Int)) = true := by simp; omega
        by_cases hlt : N - S - (next - low) < 0
        · have q1 : decide (N - S - (next - low) < 0) = true := by simpa using hlt
          have hneg : N - S - (next - low) < 0 := hlt
          have hroom := room_any (.agg #[.int .i64 next, .slice B n d]) ⟨next, Keep.toks low next⟩ N S wr XK.out.is
          rw [Keep.room_toks hl2 ⟨N0, N1⟩ ⟨S0, by omega⟩ (by omega), if_pos hlt] at hroom
          clear hlt
          go_wp2_with fail
          with_reducible refine hroom.mono ?_
          rintro e w4 ⟨rfl, hb4⟩
          have XG4 := hidT (keepH XG.out hb4)
          have XK4 := hidT (XK.out.below hb4)
          have XB4 := hidT (bthen XB.out hb4)
          clear hb4 hroom i0 i1 XG XK XB
          have rr : ((0 : Int) != (0 : Int)) = false := by simp
          go_wp2_with fail
          go_loopw [11, 15] (fun nx iv wr => ∃ (nn : Int) (i : Nat) (B : Option Addr) (n d : Nat), nx = .int .i64 nn ∧ iv = .int .i64 i ∧ (i : Int) ≤ (0 : Int) + 1 ∧ nn = next + (if (i : Int) ≤ (0 : Int) then (i : Int) else (0 : Int)) ∧
              Hid (wr.heap[g]? = some (.cells #[.int .i64 nn, .slice B n d] 24 (0, 0))) ∧ Hid (FrK wr (g + 1) (.agg #[.int .i64 nn, .slice B n d]) ⟨nn, Keep.toks low nn⟩) ∧ Hid (Below w.heap.size w wr)) (fun _ iv _ => ((0 : Int) + 1).toNat - (intOf iv).toNat)
          case atStart => exact ⟨next, 0, B, n, d, rfl, rfl, by omega, by rw [if_pos (by omega)]; omega, XG4, XK4, XB4⟩
          case round =>
            obtain ⟨nn, i, B5, n5, d5, rfl, rfl, hi, hnn, XG, XK, XB⟩ := hrel
            obtain ⟨i0, i1⟩ := cells2 XG.out
            have hgs := blk_lt XG.out
            by_cases hiR : (i : Int) ≤ (0 : Int)
            · obtain rfl : i = 0 := by omega
              rw [if_pos hiR] at hnn
              have HNN := hidT hnn
              have hnA : nn ≤ next := by omega
              have hnB : next ≤ nn := by omega
              clear hnn
              have hpu := push_any (.agg #[.int .i64 nn, .slice B5 n5 d5]) _ ⟨nn, Keep.toks low nn⟩ (Keep.tok 0) N S wr XK.out.is (IsItem.tok wr) (small_toks (by omega)) (by simp [Keep.tok]) (by simp [Keep.tok]) (by show 1 ≤ nn; omega)
              by_cases hlast : ((0 : Nat) : Int) < (0 : Int)
              · omega
              · have u4 : decide ((0 : Int) < (0 : Int)) = false := by simp
                rw [push_no hl1 (by omega) (by omega) ⟨N0, N1⟩ ⟨S0, by omega⟩ (by omega)] at hpu
                go_wp2_with fail
                with_reducible refine hpu.mono ?_
                rintro e w5 ⟨v5, u5, rfl, hK5, hI5, hb5⟩
                obtain ⟨A6, n6, c6, us6, ev5, hr5, ha5, hf5⟩ := id hK5
                have ev5' : v5 = .agg #[.int .i64 nn, .slice A6 n6 c6] := ev5
                clear ev5 hr5 ha5 hf5
                subst ev5'
                obtain ⟨LA5, ln5, lc5, BA5, bn5, bc5, eu5, hl5, hbb5, hla5, hba5⟩ := id hI5
                have eu5' : u5 = .agg #[.int .i64 0, .int .i64 0, .int .i64 0, .int .i64 0, .int .i64 0, .int .i64 0, .slice LA5 ln5 lc5, .slice BA5 bn5 bc5] := eu5
                clear eu5 hl5 hbb5 hla5 hba5
                subst eu5'
                obtain ⟨y1, y2, y3⟩ := two_alloc w5 (.cells #[.int .i64 nn, .slice A6 n6 c6] 24) (.cells #[.int .i64 0, .int .i64 0, .int .i64 0, .int .i64 0, .int .i64 0, .int .i64 0, .slice LA5 ln5 lc5, .slice BA5 bn5 bc5] 28)
                have yg := keepH XG.out (bthen hb5 y3)
                have hk7 := (hK5.below y3).mono (show g + 1 ≤ wr.heap.size by omega)
                have hb7 := bthen XB.out (bthen hb5 y3)
                have YG := hidT yg
                have HK7 := hidT hk7
                have HB7 := hidT hb7
                obtain ⟨yc0, yc1⟩ := cells2 y1
                clear y1 y2 y3 yg hk7 hb7 hb5 hK5 hI5 hpu i0 i1 hnx
                go_wp2_with (
                  refine wpList_stI rfl 24 _ _ rfl g #[.int .i64 nn, .slice A6 n6 c6] rfl rfl _ _ YG.out size2 rfl (by simp [Value.oneCell']) ?_
                  intro w8 hg8 hbut hbel)
                refine ⟨⟨nn, 0 + 1, A6, n6, c6, rfl, by go_num, by first | omega | (push_cast; omega) | simp, by rw [if_neg (by first | omega | (push_cast; omega) | simp)]; have h' := HNN.out; first | omega | (push_cast at *; omega) | simpa using h', hidT hg8, hidT (HK7.out.but (by omega) hbut), hidT (hbel _ _ HB7.out HGW.out)⟩, by first | (simp [intOf]; done) | (simp [intOf]; omega)⟩
            · have u3 : decide ((i : Int) ≤ (0 : Int)) = false := decide_eq_false hiR
              have w3 : ¬ i = 0 := by omega
              rw [if_neg hiR] at hnn
              have HNN := hidT hnn
              have hnA : nn ≤ next + (0 : Int) := by omega
              have hnB : next + (0 : Int) ≤ nn := by omega
              clear hnn
              have hn2 : nn ≤ 1 + 64 * ((j : Int) + 1) := by omega
              by_cases hjl : j < m
              · have u5 : decide ((j : Int) < (m : Int)) = true := decide_eq_true (by omega)
                have u6 : decide (j < m) = true := decide_eq_true hjl
                obtain ⟨b, o, fb, rfl, hfb, hcell⟩ := HA.out.byte hjl
                have hc := hcell wr XB.out
                have x1 : (0 : Int) ≤ (j : Int) := by omega
                have x2 : (j : Int) < (m : Int) := by omega
                have f0 : (0 : Int) ≤ (fb.toNat : Int) := by omega
                have f1 : (fb.toNat : Int) < 256 := by have := fb.toNat_lt; omega
                have e4 : wrap64 (fb.toNat : Int) = (fb.toNat : Int) := IntWalk.wrap64_in _ (by omega)
                have e5 : ∀ F : Int, 0 ≤ F → F < 20 → wrap64 (low - 1 + F) = low - 1 + F := fun F h0 h1 => IntWalk.wrap64_in _ (by omega)
                have e3 : Int.tmod (fb.toNat : Int) 20 = (fb.toNat : Int) % 20 := Int.tmod_eq_emod_of_nonneg f0
                obtain ⟨F, hF⟩ : ∃ F, (fb.toNat : Int) % 20 = F := ⟨_, rfl⟩
                have F0 : 0 ≤ F := by rw [← hF]; exact Int.emod_nonneg _ (by decide)
                have F1 : F < 20 := by rw [← hF]; exact Int.emod_lt_of_pos _ (by decide)
                rw [hF] at e3
                have e6 := e5 F F0 F1
                clear e5 hF
                have HE := hidT (And.intro e3 (And.intro e4 e6))
                clear e3 e4 e6
                have hfr := free_right (.agg #[.int .i64 nn, .slice B5 n5 d5]) ⟨nn, Keep.toks low nn⟩ (low - 1 + F) wr XK.out.is (small_toks (by omega)) (Keep.toks_right hl1 (by omega) (by omega) (by omega))
                dsimp only at hfr
                rw [Keep.toks_freed (by omega)] at hfr
                obtain ⟨e3, e4, e6⟩ := HE.out
                clear hcell hfb hiR hi
                go_wp2_with fail
                with_reducible refine hfr.mono ?_
                rintro e w5 ⟨v5, rfl, hK5, hb5⟩
                obtain ⟨A6, n6, c6, us6, ev5, hr5, ha5, hf5⟩ := id hK5
                have ev5' : v5 = .agg #[.int .i64 nn, .slice A6 n6 c6] := ev5
                clear ev5 hr5 ha5 hf5
                subst ev5'
                have YG := hidT (keepH XG.out hb5)
                have HK7 := hidT (hK5.mono (show g + 1 ≤ wr.heap.size by omega))
                have HB7 := hidT (bthen XB.out hb5)
                clear hb5 hK5 hfr i0 i1 hc
                by_cases hul : low ≤ low - 1 + F
                · have u7 : decide (low ≤ low - 1 + F) = true := decide_eq_true hul
                  have s1 : IntKind.i64.wrap (low - 1 + F + 1) = low + F := by rw [show low - 1 + F + 1 = low + F from by omega]; exact IntWalk.i64_in _ (by omega)
                  by_cases hgt : nn < low + F
                  · have u8 : decide (nn < low - 1 + F + 1) = true := decide_eq_true (by omega)
                    have u9 : decide (nn < low + F) = true := decide_eq_true hgt
                    have hlo : Keep.lowOf low nn (low - 1 + F) = nn := by unfold Keep.lowOf; rw [if_neg (by omega), if_pos (by omega)]
                    rw [hlo] at HK7
                    go_wp2_with (
                      refine wpList_stI rfl 24 _ _ rfl g #[.int .i64 nn, .slice A6 n6 c6] rfl rfl _ _ YG.out size2 rfl (by simp [Value.oneCell']) ?_
                      intro w8 hg8 hbut hbel)
                    exact ⟨⟨nn, nn, j + 1, A6, n6, c6, rfl, rfl, by go_num, by omega, by omega, by omega, by omega, by push_cast; omega, hidT hg8, hidT (HK7.out.but (by omega) hbut), hidT (hbel _ _ HB7.out HGW.out)⟩, by first | (simp [intOf]; done) | (simp [intOf]; omega)⟩
                  · have u8 : decide (nn < low - 1 + F + 1) = false := decide_eq_false (by omega)
                    have u9 : decide (nn < low + F) = false := decide_eq_false hgt
                    have hlo : Keep.lowOf low nn (low - 1 + F) = low - 1 + F + 1 := by unfold Keep.lowOf; rw [if_neg (by omega), if_neg (by omega)]
                    rw [hlo] at HK7
                    go_wp2_with (
                      refine wpList_stI rfl 24 _ _ rfl g #[.int .i64 nn, .slice A6 n6 c6] rfl rfl _ _ YG.out size2 rfl (by simp [Value.oneCell']) ?_
                      intro w8 hg8 hbut hbel)
                    exact ⟨⟨nn, low - 1 + F + 1, j + 1, A6, n6, c6, rfl, by first | rfl | go_num, by go_num, by omega, by omega, by omega, by omega, by push_cast; omega, hidT hg8, hidT (HK7.out.but (by omega) hbut), hidT (hbel _ _ HB7.out HGW.out)⟩, by first | (simp [intOf]; done) | (simp [intOf]; omega)⟩
                · have u7 : decide (low ≤ low - 1 + F) = false := decide_eq_false hul
                  have u8 : decide (nn < low) = false := decide_eq_false (by omega)
                  have hlo : Keep.lowOf low nn (low - 1 + F) = low := by unfold Keep.lowOf; rw [if_pos (by omega)]
                  rw [hlo] at HK7
                  go_wp2_with (
                    refine wpList_stI rfl 24 _ _ rfl g #[.int .i64 nn, .slice A6 n6 c6] rfl rfl _ _ YG.out size2 rfl (by simp [Value.oneCell']) ?_
                    intro w8 hg8 hbut hbel)
                  exact ⟨⟨nn, low, j + 1, A6, n6, c6, rfl, rfl, by go_num, by omega, by omega, by omega, by omega, by push_cast; omega, hidT hg8, hidT (HK7.out.but (by omega) hbut), hidT (hbel _ _ HB7.out HGW.out)⟩, by first | (simp [intOf]; done) | (simp [intOf]; omega)⟩
              · have u5 : decide ((j : Int) < (m : Int)) = false := decide_eq_false (by omega)
                have u6 : decide (j < m) = false := decide_eq_false hjl
                go_wp2
                exact ⟨⟨nn, low, j + 1, B5, n5, d5, rfl, rfl, by go_num, by omega, by omega, by omega, by omega, by push_cast; omega, XG, XK, XB⟩, by first | (simp [intOf]; done) | (simp [intOf]; omega)⟩
        · have q1 : decide (N - S - (next - low) < 0) = false := by simpa using hlt
          have hneg : 0 ≤ N - S - (next - low) := by omega
          have hroom := room_any (.agg #[.int .i64 next, .slice B n d]) ⟨next, Keep.toks low next⟩ N S wr XK.out.is
          rw [Keep.room_toks hl2 ⟨N0, N1⟩ ⟨S0, by omega⟩ (by omega), if_neg hlt] at hroom
          clear hlt
          go_wp2_with fail
          with_reducible refine hroom.mono ?_
          rintro e w4 ⟨rfl, hb4⟩
          have XG4 := hidT (keepH XG.out hb4)
          have XK4 := hidT (XK.out.below hb4)
          have XB4 := hidT (bthen XB.out hb4)
          clear hb4 hroom i0 i1 XG XK XB
          have rr : ((N - S - (next - low)) != (N - S - (next - low))) = false := by simp
          go_wp2_with fail
          go_loopw [11, 15] (fun nx iv wr => ∃ (nn : Int) (i : Nat) (B : Option Addr) (n d : Nat), nx = .int .i64 nn ∧ iv = .int .i64 i ∧ (i : Int) ≤ (N - S - (next - low)) + 1 ∧ nn = next + (if (i : Int) ≤ (N - S - (next - low)) then (i : Int) else (N - S - (next - low))) ∧
              Hid (wr.heap[g]? = some (.cells #[.int .i64 nn, .slice B n d] 24 (0, 0))) ∧ Hid (FrK wr (g + 1) (.agg #[.int .i64 nn, .slice B n d]) ⟨nn, Keep.toks low nn⟩) ∧ Hid (Below w.heap.size w wr)) (fun _ iv _ => ((N - S - (next - low)) + 1).toNat - (intOf iv).toNat)
          case atStart => exact ⟨next, 0, B, n, d, rfl, rfl, by omega, by rw [if_pos (by omega)]; omega, XG4, XK4, XB4⟩
          case round =>
            obtain ⟨nn, i, B5, n5, d5, rfl, rfl, hi, hnn, XG, XK, XB⟩ := hrel
            obtain ⟨i0, i1⟩ := cells2 XG.out
            have hgs := blk_lt XG.out
            by_cases hiR : (i : Int) ≤ (N - S - (next - low))
            · have u3 : decide ((i : Int) ≤ (N - S - (next - low))) = true := decide_eq_true hiR
              rw [if_pos hiR] at hnn
              have HNN := hidT hnn
              have hnA : nn ≤ next + (i : Int) := by omega
              have hnB : next + (i : Int) ≤ nn := by omega
              clear hnn
              have hpu := push_any (.agg #[.int .i64 nn, .slice B5 n5 d5]) _ ⟨nn, Keep.toks low nn⟩ (Keep.tok 0) N S wr XK.out.is (IsItem.tok wr) (small_toks (by omega)) (by simp [Keep.tok]) (by simp [Keep.tok]) (by show 1 ≤ nn; omega)
              by_cases hlast : (i : Int) < (N - S - (next - low))
              · have u4 : decide ((i : Int) < (N - S - (next - low))) = true := decide_eq_true hlast
                rw [push_yes hl1 (by omega) (by omega) ⟨N0, N1⟩ ⟨S0, by omega⟩ (by omega)] at hpu
                go_wp2_with fail
                with_reducible refine hpu.mono ?_
                rintro e w5 ⟨v5, u5, rfl, hK5, hI5, hb5⟩
                obtain ⟨A6, n6, c6, us6, ev5, hr5, ha5, hf5⟩ := id hK5
                have ev5' : v5 = .agg #[.int .i64 (nn + 1), .slice A6 n6 c6] := ev5
                clear ev5 hr5 ha5 hf5
                subst ev5'
                obtain ⟨LA5, ln5, lc5, BA5, bn5, bc5, eu5, hl5, hbb5, hla5, hba5⟩ := id hI5
                have eu5' : u5 = .agg #[.int .i64 3, .int .i64 nn, .int .i64 0, .int .i64 0, .int .i64 0, .int .i64 0, .slice LA5 ln5 lc5, .slice BA5 bn5 bc5] := eu5
                clear eu5 hl5 hbb5 hla5 hba5
                subst eu5'
                obtain ⟨y1, y2, y3⟩ := two_alloc w5 (.cells #[.int .i64 (nn + 1), .slice A6 n6 c6] 24) (.cells #[.int .i64 3, .int .i64 nn, .int .i64 0, .int .i64 0, .int .i64 0, .int .i64 0, .slice LA5 ln5 lc5, .slice BA5 bn5 bc5] 28)
                have yg := keepH XG.out (bthen hb5 y3)
                have hk7 := (hK5.below y3).mono (show g + 1 ≤ wr.heap.size by omega)
                have hb7 := bthen XB.out (bthen hb5 y3)
                have v2 : (nn != nn) = false := by simp
                have HW1 := hidT (IntWalk.wrap64_in (nn + 1) (by omega))
                have YG := hidT yg
                have HK7 := hidT hk7
                have HB7 := hidT hb7
                have y1' := (cells8 y2).2.1
                obtain ⟨yc0, yc1⟩ := cells2 y1
                clear y1 y2 y3 yg hk7 hb7 hb5 hK5 hI5 hpu i0 i1 hnx
                go_wp2_with (
                  refine wpList_stI rfl 24 _ _ rfl g #[.int .i64 (nn + 1), .slice A6 n6 c6] rfl rfl _ _ YG.out size2 rfl (by simp [Value.oneCell']) ?_
                  intro w8 hg8 hbut hbel)
                refine ⟨⟨nn + 1, i + 1, A6, n6, c6, by first | rfl | exact congrArg (Value.int IntKind.i64) HW1.out | (rw [HW1.out]), by go_num, by first | omega | (push_cast; omega) | simp, by rw [if_pos (by first | omega | (push_cast; omega))]; have h' := HNN.out; first | omega | (push_cast; omega), hidT hg8, hidT (HK7.out.but (by omega) hbut), hidT (hbel _ _ HB7.out HGW.out)⟩, by first | (simp [intOf]; done) | (simp [intOf]; omega)⟩
              · have u4 : decide ((i : Int) < (N - S - (next - low))) = false := decide_eq_false hlast
                rw [push_no hl1 (by omega) (by omega) ⟨N0, N1⟩ ⟨S0, by omega⟩ (by omega)] at hpu
                go_wp2_with fail
                with_reducible refine hpu.mono ?_
                rintro e w5 ⟨v5, u5, rfl, hK5, hI5, hb5⟩
                obtain ⟨A6, n6, c6, us6, ev5, hr5, ha5, hf5⟩ := id hK5
                have ev5' : v5 = .agg #[.int .i64 nn, .slice A6 n6 c6] := ev5
                clear ev5 hr5 ha5 hf5
                subst ev5'
                obtain ⟨LA5, ln5, lc5, BA5, bn5, bc5, eu5, hl5, hbb5, hla5, hba5⟩ := id hI5
                have eu5' : u5 = .agg #[.int .i64 0, .int .i64 0, .int .i64 0, .int .i64 0, .int .i64 0, .int .i64 0, .slice LA5 ln5 lc5, .slice BA5 bn5 bc5] := eu5
                clear eu5 hl5 hbb5 hla5 hba5
                subst eu5'
                obtain ⟨y1, y2, y3⟩ := two_alloc w5 (.cells #[.int .i64 nn, .slice A6 n6 c6] 24) (.cells #[.int .i64 0, .int .i64 0, .int .i64 0, .int .i64 0, .int .i64 0, .int .i64 0, .slice LA5 ln5 lc5, .slice BA5 bn5 bc5] 28)
                have yg := keepH XG.out (bthen hb5 y3)
                have hk7 := (hK5.below y3).mono (show g + 1 ≤ wr.heap.size by omega)
                have hb7 := bthen XB.out (bthen hb5 y3)
                have YG := hidT yg
                have HK7 := hidT hk7
                have HB7 := hidT hb7
                obtain ⟨yc0, yc1⟩ := cells2 y1
                clear y1 y2 y3 yg hk7 hb7 hb5 hK5 hI5 hpu i0 i1 hnx
                go_wp2_with (
                  refine wpList_stI rfl 24 _ _ rfl g #[.int .i64 nn, .slice A6 n6 c6] rfl rfl _ _ YG.out size2 rfl (by simp [Value.oneCell']) ?_
                  intro w8 hg8 hbut hbel)
                refine ⟨⟨nn, i + 1, A6, n6, c6, rfl, by go_num, by first | omega | (push_cast; omega) | simp, by rw [if_neg (by first | omega | (push_cast; omega) | simp)]; have h' := HNN.out; first | omega | (push_cast at *; omega) | simpa using h', hidT hg8, hidT (HK7.out.but (by omega) hbut), hidT (hbel _ _ HB7.out HGW.out)⟩, by first | (simp [intOf]; done) | (simp [intOf]; omega)⟩
            · have u3 : decide ((i : Int) ≤ (N - S - (next - low))) = false := decide_eq_false hiR
              rw [if_neg hiR] at hnn
              have HNN := hidT hnn
              have hnA : nn ≤ next + (N - S - (next - low)) := by omega
              have hnB : next + (N - S - (next - low)) ≤ nn := by omega
              clear hnn
              have hn2 : nn ≤ 1 + 64 * ((j : Int) + 1) := by omega
              by_cases hjl : j < m
              · have u5 : decide ((j : Int) < (m : Int)) = true := decide_eq_true (by omega)
                have u6 : decide (j < m) = true := decide_eq_true hjl
                obtain ⟨b, o, fb, rfl, hfb, hcell⟩ := HA.out.byte hjl
                have hc := hcell wr XB.out
                have x1 : (0 : Int) ≤ (j : Int) := by omega
                have x2 : (j : Int) < (m : Int) := by omega
                have f0 : (0 : Int) ≤ (fb.toNat : Int) := by omega
                have f1 : (fb.toNat : Int) < 256 := by have := fb.toNat_lt; omega
                have e4 : wrap64 (fb.toNat : Int) = (fb.toNat : Int) := IntWalk.wrap64_in _ (by omega)
                have e5 : ∀ F : Int, 0 ≤ F → F < 20 → wrap64 (low - 1 + F) = low - 1 + F := fun F h0 h1 => IntWalk.wrap64_in _ (by omega)
                have e3 : Int.tmod (fb.toNat : Int) 20 = (fb.toNat : Int) % 20 := Int.tmod_eq_emod_of_nonneg f0
                obtain ⟨F, hF⟩ : ∃ F, (fb.toNat : Int) % 20 = F := ⟨_, rfl⟩
                have F0 : 0 ≤ F := by rw [← hF]; exact Int.emod_nonneg _ (by decide)
                have F1 : F < 20 := by rw [← hF]; exact Int.emod_lt_of_pos _ (by decide)
                rw [hF] at e3
                have e6 := e5 F F0 F1
                clear e5 hF
                have HE := hidT (And.intro e3 (And.intro e4 e6))
                clear e3 e4 e6
                have hfr := free_right (.agg #[.int .i64 nn, .slice B5 n5 d5]) ⟨nn, Keep.toks low nn⟩ (low - 1 + F) wr XK.out.is (small_toks (by omega)) (Keep.toks_right hl1 (by omega) (by omega) (by omega))
                dsimp only at hfr
                rw [Keep.toks_freed (by omega)] at hfr
                obtain ⟨e3, e4, e6⟩ := HE.out
                clear hcell hfb hiR hi
                go_wp2_with fail
                with_reducible refine hfr.mono ?_
                rintro e w5 ⟨v5, rfl, hK5, hb5⟩
                obtain ⟨A6, n6, c6, us6, ev5, hr5, ha5, hf5⟩ := id hK5
                have ev5' : v5 = .agg #[.int .i64 nn, .slice A6 n6 c6] := ev5
                clear ev5 hr5 ha5 hf5
                subst ev5'
                have YG := hidT (keepH XG.out hb5)
                have HK7 := hidT (hK5.mono (show g + 1 ≤ wr.heap.size by omega))
                have HB7 := hidT (bthen XB.out hb5)
                clear hb5 hK5 hfr i0 i1 hc
                by_cases hul : low ≤ low - 1 + F
                · have u7 : decide (low ≤ low - 1 + F) = true := decide_eq_true hul
                  have s1 : IntKind.i64.wrap (low - 1 + F + 1) = low + F := by rw [show low - 1 + F + 1 = low + F from by omega]; exact IntWalk.i64_in _ (by omega)
                  by_cases hgt : nn < low + F
                  · have u8 : decide (nn < low - 1 + F + 1) = true := decide_eq_true (by omega)
                    have u9 : decide (nn < low + F) = true := decide_eq_true hgt
                    have hlo : Keep.lowOf low nn (low - 1 + F) = nn := by unfold Keep.lowOf; rw [if_neg (by omega), if_pos (by omega)]
                    rw [hlo] at HK7
                    go_wp2_with (
                      refine wpList_stI rfl 24 _ _ rfl g #[.int .i64 nn, .slice A6 n6 c6] rfl rfl _ _ YG.out size2 rfl (by simp [Value.oneCell']) ?_
                      intro w8 hg8 hbut hbel)
                    exact ⟨⟨nn, nn, j + 1, A6, n6, c6, rfl, rfl, by go_num, by omega, by omega, by omega, by omega, by push_cast; omega, hidT hg8, hidT (HK7.out.but (by omega) hbut), hidT (hbel _ _ HB7.out HGW.out)⟩, by first | (simp [intOf]; done) | (simp [intOf]; omega)⟩
                  · have u8 : decide (nn < low - 1 + F + 1) = false := decide_eq_false (by omega)
                    have u9 : decide (nn < low + F) = false := decide_eq_false hgt
                    have hlo : Keep.lowOf low nn (low - 1 + F) = low - 1 + F + 1 := by unfold Keep.lowOf; rw [if_neg (by omega), if_neg (by omega)]
                    rw [hlo] at HK7
                    go_wp2_with (
                      refine wpList_stI rfl 24 _ _ rfl g #[.int .i64 nn, .slice A6 n6 c6] rfl rfl _ _ YG.out size2 rfl (by simp [Value.oneCell']) ?_
                      intro w8 hg8 hbut hbel)
                    exact ⟨⟨nn, low - 1 + F + 1, j + 1, A6, n6, c6, rfl, by first | rfl | go_num, by go_num, by omega, by omega, by omega, by omega, by push_cast; omega, hidT hg8, hidT (HK7.out.but (by omega) hbut), hidT (hbel _ _ HB7.out HGW.out)⟩, by first | (simp [intOf]; done) | (simp [intOf]; omega)⟩
                · have u7 : decide (low ≤ low - 1 + F) = false := decide_eq_false hul
                  have u8 : decide (nn < low) = false := decide_eq_false (by omega)
                  have hlo : Keep.lowOf low nn (low - 1 + F) = low := by unfold Keep.lowOf; rw [if_pos (by omega)]
                  rw [hlo] at HK7
                  go_wp2_with (
                    refine wpList_stI rfl 24 _ _ rfl g #[.int .i64 nn, .slice A6 n6 c6] rfl rfl _ _ YG.out size2 rfl (by simp [Value.oneCell']) ?_
                    intro w8 hg8 hbut hbel)
                  exact ⟨⟨nn, low, j + 1, A6, n6, c6, rfl, rfl, by go_num, by omega, by omega, by omega, by omega, by push_cast; omega, hidT hg8, hidT (HK7.out.but (by omega) hbut), hidT (hbel _ _ HB7.out HGW.out)⟩, by first | (simp [intOf]; done) | (simp [intOf]; omega)⟩
              · have u5 : decide ((j : Int) < (m : Int)) = false := decide_eq_false (by omega)
                have u6 : decide (j < m) = false := decide_eq_false hjl
                go_wp2
                exact ⟨⟨nn, low, j + 1, B5, n5, d5, rfl, rfl, by go_num, by omega, by omega, by omega, by omega, by push_cast; omega, XG, XK, XB⟩, by first | (simp [intOf]; done) | (simp [intOf]; omega)⟩
      · have u1 : decide (j ≤ m) = false := by simpa using hjm
        have u2 : decide ((j : Int) ≤ (m : Int)) = false := by simp; omega
        have hs := FrK.size (k := ⟨next, Keep.toks low next⟩) XK.out
        dsimp only at hs
        rw [Keep.toks_length] at hs
        have v1 : ((n : Int) == next - low) = true := by simp; omega
        go_wp2
        go_ret
        exact ⟨rfl, XB.out⟩
  · have t1 : decide (20 < m) = true := by simp; omega
    have t2 : decide ((20 : Int) < (m : Int)) = true := by simp; omega
    go_wp2
    go_ret
    exact ⟨rfl, hb1⟩
end Go.Proofs.Ytgnaecifinlnmaa
