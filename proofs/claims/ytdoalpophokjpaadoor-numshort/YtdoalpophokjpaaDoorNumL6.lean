/- The walk of NumShort: it returns true, for every slice of bytes. -/
import Derived.Test.YtdoalpophokjpaaDoorNumShown
namespace Go.Proofs.YtdoalpophokjpaaDoor
open Go.RowKit
set_option linter.unusedVariables false

theorem short_out (A : Option Addr) (n c : Nat) (w : World) (hw : Wd w) (h : 300 < n) :
    Calls Tryd.prog 8 #[.slice A n c] w (Yes w) := by
  have q1 : decide ((300 : Int) < (n : Int)) = true := by simp; omega
  go_enter Tryd.func8, Tryd.ntmps8
  go_wp2_with fail
  with_reducible refine (shown_any _ hw).mono ?_
  rintro e w1 ⟨rfl, hb1⟩
  go_wp2
  go_ret
  exact ⟨rfl, hb1⟩

theorem code_12 {l : List UInt8} {k : Nat} (hk : Num.IsW k) (h2 : k ≤ 2) (h : k ≤ l.length) : Num.code l k = 0 := by
  have hv := Num.val_lt (l.take k)
  have hl : (l.take k).length = k := by rw [List.length_take]; omega
  rw [hl] at hv
  have hm := Num.most_lt hk
  unfold Num.code
  rw [if_neg (by omega), Int.toNat_natCast, if_neg (by omega)]
  rw [if_neg ?_]
  rcases hk with rfl | rfl | rfl
  · have : Num.most ((1 : Nat) : Int) = 255 := rfl
    omega
  · have : Num.most ((2 : Nat) : Int) = 65535 := rfl
    omega
  · omega
theorem cell3 {W w' : World} {g : Nat} (hg : W.heap.size = g) {t : TypeId} {a b c : Value} (hb : Below (W.alloc (.cells #[a, b, c] t)).heap.size (W.alloc (.cells #[a, b, c] t)) w') (j : Nat) (u : Value) (h : #[a, b, c][j]? = some u) : w'.cell? ⟨g, j, none⟩ = some u := by
  subst hg
  rw [hb.cell (by simp), World.cell?_alloc_mark]
  exact h

set_option maxRecDepth 100000 in
set_option maxHeartbeats 2000000 in
theorem short_in (A : Option Addr) (n c : Nat) (l : List UInt8) (w : World) (hw : Wd w) (h : Rd w A n c l) (hn : n ≤ 300) :
    Calls Tryd.prog 8 #[.slice A n c] w (Yes w) := by
  have q1 : decide ((300 : Int) < (n : Int)) = false := by simp; omega
  have HL := hidT h.1
  go_enter Tryd.func8, Tryd.ntmps8
  go_wp2_with fail
  with_reducible refine (shown_any _ hw).mono ?_
  rintro e w1 ⟨rfl, hb1⟩
  go_wp2
  obtain ⟨g, HG⟩ : ∃ g, Hid (w1.heap.size = g) := ⟨_, hidT rfl⟩
  rw [HG.out]
  have hb12 : Below w.heap.size w (w1.alloc (.cells #[.int .i64 1, .int .i64 2, .int .i64 8] 3)) := hb1.alloc hb1.size _
  go_loopw [5] (fun i w' => ∃ j : Nat, j ≤ 3 ∧ i = .int .i64 j ∧ Below (w1.alloc (.cells #[.int .i64 1, .int .i64 2, .int .i64 8] 3)).heap.size (w1.alloc (.cells #[.int .i64 1, .int .i64 2, .int .i64 8] 3)) w') (fun i _ => 3 - (intOf i).toNat)
  case atStart => exact ⟨0, Nat.zero_le _, rfl, Below.refl _ _⟩
  case round =>
    obtain ⟨j, hj, rfl, hb3⟩ := hrel
    have hb := bthen hb12 hb3
    by_cases hj3 : j < 3
    · obtain ⟨k, hk, hat, hj2⟩ : ∃ k : Nat, Num.IsW k ∧ #[Value.int .i64 1, Value.int .i64 2, Value.int .i64 8][j]? = some (.int .i64 (k : Int)) ∧ (j < 2 → k ≤ 2) := by
        obtain rfl | rfl | rfl : j = 0 ∨ j = 1 ∨ j = 2 := by omega
        · exact ⟨1, .inl rfl, rfl, fun _ => by omega⟩
        · exact ⟨2, .inr (.inl rfl), rfl, fun _ => by omega⟩
        · exact ⟨8, .inr (.inr rfl), rfl, fun h => by omega⟩
      have hc3 := cell3 HG.out hb3 j _ hat
      have hk8 := hk.pos
      clear hat
      have ht := take_any A n c l k _ (hw.below hb) (h.below hb) (by omega)
      by_cases hnk : n < k
      · have hc : Num.code l k = 2 := by unfold Num.code; rw [if_neg (by have := (Num.most_lt hk).1; omega), if_pos (by rw [HL.out]; simpa using hnk)]
        obtain ⟨e1, e2⟩ := Num.code_bad (l := l) (k := k) (by omega)
        rw [e1, e2, hc] at ht
        clear e1 e2 hc
        have q2 : decide (n < k) = true := by simpa using hnk
        have q3 : decide (k ≤ n) = false := by simpa using hnk
        have q4 : decide ((n : Int) < (k : Int)) = true := by simpa using hnk
        have q5 : decide ((k : Int) ≤ (n : Int)) = false := by simpa using hnk
        go_wp2_with fail
        with_reducible refine ht.mono ?_
        rintro e w4 ⟨A4, c4, rfl, ho4, hb4⟩
        have hc4 := (hb4.cell (World.block_lt_of_cell? _ _ hc3)).trans hc3
        go_wp2
        exact ⟨⟨j + 1, by omega, by go_num, bthen hb3 hb4⟩, by simp [intOf]; omega⟩
      · have q2 : decide (n < k) = false := by simpa using hnk
        have q3 : decide (k ≤ n) = true := by simpa using hnk
        have q4 : decide ((n : Int) < (k : Int)) = false := by simpa using hnk
        have q5 : decide ((k : Int) ≤ (n : Int)) = true := by simpa using hnk
        by_cases hc : Num.code l k = 0
        · have hrl : (Num.rest l k).length = n - k := by rw [Num.rest_length hc, HL.out, Int.toNat_natCast]
          have HF := hidT (Num.num_fits hc)
          rw [hc] at ht
          clear hc
          generalize Num.rest l k = r at ht hrl
          generalize Num.num l k = x at ht HF
          have HRL := hidT hrl
          have q6 : ((n - k : Nat) : Int) = (n : Int) - (k : Int) := by omega
          have q7 : (((n - k : Nat) : Int) != (n : Int) - (k : Int)) = false := by simp; omega
          have q8 : (((n - k : Nat) : Int) == (n : Int) - (k : Int)) = true := by simp; omega
          clear hrl q6
          by_cases hj2' : j < 2
          · have q9 : decide (j < 2) = true := by simpa using hj2'
            have q10 : decide ((j : Int) < 2) = true := by simp; omega
            go_wp2_with fail
            with_reducible refine ht.mono ?_
            rintro e w4 ⟨A4, c4, rfl, ho4, hb4⟩
            rw [HRL.out]
            have hc4 := (hb4.cell (World.block_lt_of_cell? _ _ hc3)).trans hc3
            go_wp2_with fail
            with_reducible refine (fits_is _ _ true _ (hw.below (bthen hb hb4)) HF.out).mono ?_
            rintro e w5 ⟨rfl, hb5⟩
            go_wp2
            exact ⟨⟨j + 1, by omega, by go_num, bthen hb3 (bthen hb4 hb5)⟩, by simp [intOf]; omega⟩
          · have q9 : decide (j < 2) = false := by simpa using hj2'
            have q10 : decide ((j : Int) < 2) = false := by simp; omega
            go_wp2_with fail
            with_reducible refine ht.mono ?_
            rintro e w4 ⟨A4, c4, rfl, ho4, hb4⟩
            rw [HRL.out]
            have hc4 := (hb4.cell (World.block_lt_of_cell? _ _ hc3)).trans hc3
            go_wp2_with fail
            with_reducible refine (fits_is _ _ true _ (hw.below (bthen hb hb4)) HF.out).mono ?_
            rintro e w5 ⟨rfl, hb5⟩
            go_wp2
            exact ⟨⟨j + 1, by omega, by go_num, bthen hb3 (bthen hb4 hb5)⟩, by simp [intOf]; omega⟩
        · have hj2' : ¬ j < 2 := fun hh => hc (code_12 hk (hj2 hh) (by rw [HL.out]; omega))
          have q9 : decide (j < 2) = false := by simpa using hj2'
          have q10 : decide ((j : Int) < 2) = false := by simp; omega
          have h2 := Num.code_width (l := l) (k := (k : Int)) (by have := (Num.most_lt hk).1; omega) hc
          obtain ⟨e1, e2⟩ := Num.code_bad hc
          rw [e1, e2, h2] at ht
          clear e1 e2 h2 hc
          go_wp2_with fail
          with_reducible refine ht.mono ?_
          rintro e w4 ⟨A4, c4, rfl, ho4, hb4⟩
          have hc4 := (hb4.cell (World.block_lt_of_cell? _ _ hc3)).trans hc3
          go_wp2
          exact ⟨⟨j + 1, by omega, by go_num, bthen hb3 hb4⟩, by simp [intOf]; omega⟩
    · obtain rfl : j = 3 := by omega
      go_wp2
      go_ret
      exact ⟨rfl, hb⟩

theorem short_any (A : Option Addr) (n c : Nat) (l : List UInt8) (w : World) (hw : Wd w) (h : Rd w A n c l) :
    Calls Tryd.prog 8 #[.slice A n c] w (Yes w) := by
  by_cases hn : 300 < n
  · exact short_out A n c w hw hn
  · exact short_in A n c l w hw h (by omega)
end Go.Proofs.YtdoalpophokjpaaDoor
