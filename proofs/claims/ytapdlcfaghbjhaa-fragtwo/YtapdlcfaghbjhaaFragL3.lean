/- The law FragSizes, walked. -/
import Derived.Test.YtapdlcfaghbjhaaFragShown
set_option maxRecDepth 100000
namespace Go.Proofs.Ytapdlcfaghbjhaa
open Go.RowKit
set_option linter.unusedVariables false

theorem fsizes_long (A : Option Addr) (n c : Nat) (m : Int) (w : World) (hn : 2000 < n) :
    Calls Try.prog 5 #[.slice A n c, .int .i64 m] w (Yes w) := by
  have q1 : decide ((2000 : Int) < (n : Int)) = true := by simp; omega
  have p1 : decide (2000 < n) = true := by simp; omega
  go_enter Try.func5, Try.ntmps5
  go_wp2_with fail
  with_reducible refine (fshown_any _).mono ?_
  rintro e w1 ⟨rfl, hb1⟩
  go_wp2
  go_ret
  exact ⟨rfl, hb1⟩

set_option maxHeartbeats 2000000 in
theorem fsizes_none (A : Option Addr) (n c : Nat) (l : List UInt8) (m : Int) (w : World) (h : Rd w A n c l) (hn : n ≤ 2000) (hm : m < 1) (im : I64 m) :
    Calls Try.prog 5 #[.slice A n c, .int .i64 m] w (Yes w) := by
  have q1 : decide ((2000 : Int) < (n : Int)) = false := by simp; omega
  have p1 : decide (2000 < n) = false := by simp; omega
  have q2 : decide (m < 1) = true := by simpa using hm
  have hk : manyI (n : Int) m = 0 := by unfold manyI; exact if_pos (.inr hm)
  go_enter Try.func5, Try.ntmps5
  go_wp2_with fail
  with_reducible refine (fshown_any _).mono ?_
  rintro e w1 ⟨rfl, hb1⟩
  have hc := cut_none A n c m w1 hm
  go_wp2_with fail
  with_reducible refine hc.mono ?_
  intro e w2 hG
  obtain ⟨A2, c2, rs2, rfl, hR2, hL2, hb2⟩ := hG.open_ 0 rfl
  have hmm := many_any (n : Int) m w2 ⟨by omega, by omega⟩ im
  rw [hk] at hmm
  clear hc hG
  go_wp2_with fail
  with_reducible refine hmm.mono ?_
  rintro e w' ⟨rfl, hww⟩
  obtain rfl : w2 = w' := hww.symm
  clear hww
  go_wp2
  go_ret
  exact ⟨rfl, bthen hb1 hb2⟩

theorem rows_at {rs : List Bw} {l : List UInt8} {m k : Nat} {r : Bw} (h : rs.map Bw.b = cutOf l m) (hr : rs[k]? = some r) (hk : k < manyN l.length m) : r.b = piece l m k := by
  have h1 : (rs.map Bw.b)[k]? = some r.b := by rw [List.getElem?_map, hr]; rfl
  rw [h, cutOf_at l m k hk] at h1
  injection h1 with h1
  exact h1.symm

set_option maxRecDepth 100000 in
set_option maxHeartbeats 4000000 in
theorem fsizes_some (A : Option Addr) (n c : Nat) (l : List UInt8) (m : Nat) (w : World) (h : Rd w A n c l) (hn : n ≤ 2000) (hm : 1 ≤ m) (hmm : m ≤ 9223372036854775807) :
    Calls Try.prog 5 #[.slice A n c, .int .i64 (m : Int)] w (Yes w) := by
  have q1 : decide ((2000 : Int) < (n : Int)) = false := by simp; omega
  have p1 : decide (2000 < n) = false := by simp; omega
  have q2 : decide ((m : Int) < 1) = false := by simp; omega
  have hln := h.1
  obtain ⟨K, HK⟩ : ∃ K, Hid (manyN n m = K) := ⟨_, hidT rfl⟩
  have hK1 : 1 ≤ K := by rw [← HK.out]; exact manyN_pos _ _
  have hK2 : K ≤ n + 1 := by rw [← HK.out]; exact manyN_le _ _ hm
  have q3 : decide ((1 : Int) ≤ (K : Int)) = true := by simp; omega
  have p3 : decide (1 ≤ K) = true := by simp; omega
  have H := hidT h
  have HL := hidT hln
  clear h hln
  go_enter Try.func5, Try.ntmps5
  go_wp2_with fail
  with_reducible refine (fshown_any _).mono ?_
  rintro e w1 ⟨rfl, hb1⟩
  have hc := cut_some A n c l m w1 (H.out.below hb1) (by omega) hm hmm
  go_wp2_with fail
  with_reducible refine hc.mono ?_
  intro e w2 hG
  obtain ⟨A2, c2, rs, rfl, hR2, hL2, hb2⟩ := hG.open_ K (by rw [cutOf_length, HL.out, HK.out])
  have hb02 := bthen hb1 hb2
  have HR := hidT hR2
  have HLL := hidT hL2
  have HE := hidT (madeB w2 w2.heap.size (Nat.le_refl _) 5 w2.heap.size rfl)
  have hBE := nkeep w2 (.cells #[] 5)
  clear hc hG hR2 hL2
  go_wp2
  go_loopw [7, 8] (fun v7 i wr => ∃ (j q : Nat) (A7 : Option Addr) (c7 : Nat), j ≤ K ∧ i = .int .i64 j ∧ v7 = .slice A7 q c7 ∧ Hid (Own wr w2.heap.size 5 (.slice A7 q c7) q (l.take (j * m))) ∧ Below w2.heap.size w2 wr) (fun _ i _ => K - (intOf i).toNat)
  case atStart => exact ⟨0, 0, _, _, Nat.zero_le _, rfl, rfl, hidT (by rw [Nat.zero_mul, List.take_zero]; exact HE.out), hBE⟩
  case round =>
    obtain ⟨j, q, A7, c7, hj, rfl, rfl, HO, hbr⟩ := hrel
    have hq : q ≤ 2000 := by have h1 := HO.out.size; rw [List.length_take, HL.out] at h1; omega
    by_cases hjK : j < K
    · obtain ⟨b, o, r, rfl, hr, hrd, hcell⟩ := HR.out.at_ hjK
      have hrb := rows_at HLL.out hr (by rw [HL.out, HK.out]; exact hjK)
      have kc := hcell wr hbr
      have hrn : r.n = min m (n - j * m) := by rw [← hrd.1, hrb, piece_length, HL.out]
      have x1 : (0 : Int) ≤ (j : Int) := by omega
      have x2 : (j : Int) < (K : Int) := by omega
      have q5 : decide ((m : Int) < (r.n : Int)) = false := by simp; omega
      have p5 : decide (m < r.n) = false := by simp; omega
      have hz : ¬ (r.n = 0 ∧ 0 < n) := by
        rintro ⟨h1, h2⟩
        have := piece_some (l := l) (m := m) (k := j) hm (by rw [HL.out, HK.out]; exact hjK) (by rw [HL.out]; exact h2)
        rw [← hrb, hrd.1] at this
        omega
      have hrr := hrd.below hbr
      have e7 : l.take (j * m) ++ r.b = l.take ((j + 1) * m) := by rw [hrb]; exact piece_behind l m j
      have HRR := hidT hrr
      have HE7 := hidT e7
      have hr2000 : r.n ≤ 2000 := by omega
      have HZ := hidT hz
      have hfull : j < K - 1 → r.n = m := by
        intro hlt
        have := piece_full (l := l) (m := m) (k := j) hm (by rw [HL.out, HK.out]; omega)
        rw [← hrb, hrd.1] at this
        exact this
      have HFU := hidT hfull
      have q6 : IntKind.i64.wrap ((K : Int) - 1) = (K : Int) - 1 := IntWalk.i64_in _ (by omega)
      clear hz hfull hcell hr hrb hrn hrr e7 hrd
      by_cases h0 : r.n = 0
      · have hn0 : n = 0 := by have := HZ.out; omega
        have q8 : ((r.n : Int) == 0) = true := by simp [h0]
        have p8 : (r.n == 0) = true := by simp [h0]
        have qa : decide ((0 : Int) < (n : Int)) = false := by simp; omega
        have pa : decide (0 < n) = false := by simp; omega
        have hKj : ¬ j < K - 1 := by intro h; have := HFU.out h; omega
        have q7 : decide ((j : Int) < (K : Int) - 1) = false := by simp; omega
        clear h0 hn0
        go_wp2_with (
          at_builtin
          refine wpList_app rfl (.tmp 75) (.tmp 79) 22 rfl w2.heap.size 5 info5 Try.underlying22 (.slice A7 q c7) q (l.take (j * m)) rfl HO.out r.A r.n r.c r.b rfl HRR.out (by omega) hbr.size ?_
          intro v3 w3 ho3 hb3
          obtain ⟨A3, c3, rfl, hrd3⟩ := Own.rd ho3
          have HO3 := hidT ho3
          clear ho3 hrd3)
        refine ⟨⟨j + 1, q + r.n, A3, c3, by omega, by go_num, rfl, hidT ?_, hbr.trans hb3⟩, by simp [intOf]; omega⟩
        have := HO3.out
        rw [HE7.out] at this
        exact this
      · have q8 : ((r.n : Int) == 0) = false := by simp; omega
        have p8 : (r.n == 0) = false := by simp; omega
        by_cases hjl : j < K - 1
        · have hm7 := HFU.out hjl
          have q7 : decide ((j : Int) < (K : Int) - 1) = true := by simp; omega
          have q9 : ((r.n : Int) != (m : Int)) = false := by simp; omega
          have p9 : (r.n != m) = false := by simp; omega
          clear hm7
          go_wp2_with (
            at_builtin
            refine wpList_app rfl (.tmp 75) (.tmp 79) 22 rfl w2.heap.size 5 info5 Try.underlying22 (.slice A7 q c7) q (l.take (j * m)) rfl HO.out r.A r.n r.c r.b rfl HRR.out (by omega) hbr.size ?_
            intro v3 w3 ho3 hb3
            obtain ⟨A3, c3, rfl, hrd3⟩ := Own.rd ho3
            have HO3 := hidT ho3
            clear ho3 hrd3)
          refine ⟨⟨j + 1, q + r.n, A3, c3, by omega, by go_num, rfl, hidT ?_, hbr.trans hb3⟩, by simp [intOf]; omega⟩
          have := HO3.out
          rw [HE7.out] at this
          exact this
        · have q7 : decide ((j : Int) < (K : Int) - 1) = false := by simp; omega
          go_wp2_with (
            at_builtin
            refine wpList_app rfl (.tmp 75) (.tmp 79) 22 rfl w2.heap.size 5 info5 Try.underlying22 (.slice A7 q c7) q (l.take (j * m)) rfl HO.out r.A r.n r.c r.b rfl HRR.out (by omega) hbr.size ?_
            intro v3 w3 ho3 hb3
            obtain ⟨A3, c3, rfl, hrd3⟩ := Own.rd ho3
            have HO3 := hidT ho3
            clear ho3 hrd3)
          refine ⟨⟨j + 1, q + r.n, A3, c3, by omega, by go_num, rfl, hidT ?_, hbr.trans hb3⟩, by simp [intOf]; omega⟩
          have := HO3.out
          rw [HE7.out] at this
          exact this
    · obtain rfl : j = K := by omega
      have e7 : l.take (j * m) = l := all_taken hm (by rw [HL.out]; exact HK.out)
      have s1 := strs HO.out.same wr (Below.refl _ _)
      have s2 := strs H.out wr (bthen hb02 hbr)
      rw [e7] at s1
      go_wp2
      go_ret
      exact ⟨rfl, bthen hb02 hbr⟩

theorem fsizes_any (A : Option Addr) (n c : Nat) (l : List UInt8) (m : Int) (w : World) (h : Rd w A n c l) (im : I64 m) :
    Calls Try.prog 5 #[.slice A n c, .int .i64 m] w (Yes w) := by
  by_cases hn : 2000 < n
  · exact fsizes_long A n c m w hn
  · by_cases hm : m < 1
    · exact fsizes_none A n c l m w h (by omega) hm im
    · have := fsizes_some A n c l m.toNat w h (by omega) (by omega) (by have := im.2; omega)
      rwa [Int.toNat_of_nonneg (by omega)] at this
end Go.Proofs.Ytapdlcfaghbjhaa
