/- What num's PutRow at no width, Put, first and Take come to. -/
import Derived.Test.YtpahkkblkdkefaaDoorNum1
import Derived.Lib.SliceRun
import Derived.ScopeJumps
import Derived.WalkMore
namespace Go.Proofs.YtpahkkblkdkefaaDoor
open Go.RowKit
set_option linter.unusedVariables false

theorem fits_none {n k : Int} (h : Num.most k < 0) : Num.fits n k = false := by
  simp only [Num.fits, Bool.and_eq_false_iff, decide_eq_false_iff_not]
  omega
theorem putRow_none {l : List Int} {k : Int} (h : Num.most k < 0) : Num.putRow l k = [] := by
  unfold Num.putRow
  cases l with
  | nil => simp
  | cons x l => rw [if_neg (by simp [fits_none h])]

theorem putRow_no (A : Option Addr) (n c : Nat) (l : List Int) (k : Int) (w : World) (hw : Wd w) (h : RdI w A n c l) (hk : Num.most k < 0) (hn : n ≤ 65536) :
    Calls Tryd.prog 31 #[.slice A n c, .int .i64 k] w (Gives w 5 (Num.putRow l k)) := by
  rw [putRow_none hk]
  by_cases h0 : 0 < n
  · obtain ⟨b, o, x, rfl, hx, hc⟩ := RdI.at_ h h0
    rw [Nat.add_zero] at hc
    clear hx
    go_enter Tryd.func31, Tryd.ntmps31
    go_wp2
    refine wp_loop_rounds 1 ?_
    rw [rounds_succ]
    go_wp2_with fail
    with_reducible refine (fits_is x k false _ hw (fits_none hk)).mono ?_
    rintro e w1 ⟨rfl, hb1⟩
    go_wp2
    go_ret
    exact ⟨none, 0, rfl, World.ownsRow_nil _ _ _ _, hb1⟩
  · obtain rfl : n = 0 := by omega
    go_enter Tryd.func31, Tryd.ntmps31
    go_wp2
    refine wp_loop_rounds 1 ?_
    rw [rounds_succ]
    go_wp2
    go_ret
    exact ⟨none, 0, rfl, World.ownsRow_nil _ _ _ _, Below.refl _ _⟩

theorem putRow_any (A : Option Addr) (n c : Nat) (l : List Int) (k : Int) (w : World) (hw : Wd w) (h : RdI w A n c l) (hn : n ≤ 65536) :
    Calls Tryd.prog 31 #[.slice A n c, .int .i64 k] w (Gives w 5 (Num.putRow l k)) := by
  by_cases hk : Num.most k < 0
  · exact putRow_no A n c l k w hw h hk hn
  · obtain ⟨j, rfl, hj⟩ := Num.isW_of hk
    exact putRow_fit A n c l j w hw h hj hn

theorem put_any (x k : Int) (w : World) (hw : Wd w) :
    Calls Tryd.prog 30 #[.int .i64 x, .int .i64 k] w (Gives w 5 (Num.put x k)) := by
  have hr : RdI (w.alloc (.cells #[.int .i64 x] 3)) (some ⟨w.heap.size, 0, none⟩) 1 1 [x] := RdV.lit w 3 (0, 0) _ _ rfl 1 rfl (by decide) _ rfl
  have hw1 : Wd (w.alloc (.cells #[.int .i64 x] 3)) := hw.alloc _
  go_enter Tryd.func30, Tryd.ntmps30
  go_wp2_with fail
  with_reducible refine (putRow_any _ _ _ [x] k _ hw1 hr (by omega)).mono ?_
  rw [Num.putRow_one]
  rintro e w1 ⟨A1, c1, rfl, ho1, hb1⟩
  go_wp2
  go_ret
  have hb0 : Below w.heap.size w (w.alloc (.cells #[.int .i64 x] 3)) := (Below.refl _ _).alloc (Nat.le_refl _) _
  exact ⟨A1, c1, rfl, ho1.mono hb0.size, bthen hb0 hb1⟩

def FirstIs (w : World) (m k : Int) (e : Ending) (w' : World) : Prop := e = .returned (.tuple #[.int .i64 m, .int .i64 k]) ∧ Below w.heap.size w w'

/-- A frame of 44 slots whose eighth holds a code. -/
def At44 (k : Int) (a : Act) : Prop := ∃ (u0 u1 u2 u3 u4 u5 u6 u7 u8 u9 u10 u11 u12 u13 u14 u15 u16 u17 u18 u19 u20 u21 u22 u23 u24 u25 u26 u27 u28 u29 u30 u31 u32 u33 u34 u35 u36 u37 u38 u39 u40 u41 u42 u43 : Value), a = { tmps := #[u0, u1, u2, u3, u4, u5, u6, u7, u8, u9, u10, u11, u12, u13, u14, u15, u16, u17, u18, u19, u20, u21, u22, u23, u24, u25, u26, u27, u28, u29, u30, u31, u32, u33, u34, u35, u36, u37, u38, u39, u40, u41, u42, u43], defers := [] } ∧ u7 = .int .i64 k

set_option maxRecDepth 100000 in
theorem first_no (A : Option Addr) (n c : Nat) (k : Int) (w : World) (hw : Wd w) (hk : Num.most k < 0) :
    Calls Tryd.prog 54 #[.slice A n c, .int .i64 k] w (FirstIs w 0 1) := by
  go_enter Tryd.func54, Tryd.ntmps54
  go_wp2
  refine wp_scope_jumps 0 (fun a' w' => At44 1 a' ∧ Below w.heap.size w w') (fun _ _ => 0) rfl ?_ ?_
  · go_wp2_with fail
    with_reducible refine (bound_no k _ hw hk).mono ?_
    rintro e w1 ⟨rfl, hb1⟩
    go_wp2
    go_step3
    exact ⟨rfl, ⟨_, _, _, _, _, _, _, _, _, _, _, _, _, _, _, _, _, _, _, _, _, _, _, _, _, _, _, _, _, _, _, _, _, _, _, _, _, _, _, _, _, _, _, _, rfl, rfl⟩, hb1⟩
  · rintro a' w' ⟨⟨u0, u1, u2, u3, u4, u5, u6, u7, u8, u9, u10, u11, u12, u13, u14, u15, u16, u17, u18, u19, u20, u21, u22, u23, u24, u25, u26, u27, u28, u29, u30, u31, u32, u33, u34, u35, u36, u37, u38, u39, u40, u41, u42, u43, rfl, rfl⟩, hb⟩
    go_wp2
    simp only [Exit.jump]
    go_ret2
    exact ⟨rfl, hb⟩

set_option maxRecDepth 100000 in
theorem first_short (A : Option Addr) (n c : Nat) (k : Nat) (w : World) (hw : Wd w) (hk : Num.IsW k) (hn : n < k) :
    Calls Tryd.prog 54 #[.slice A n c, .int .i64 (k : Int)] w (FirstIs w 0 2) := by
  have q1 : decide ((n : Int) < (k : Int)) = true := by simp; omega
  have q1' : decide (n < k) = true := by simp; omega
  go_enter Tryd.func54, Tryd.ntmps54
  go_wp2
  refine wp_scope_jumps 0 (fun a' w' => At44 2 a' ∧ Below w.heap.size w w') (fun _ _ => 0) rfl ?_ ?_
  · go_wp2_with fail
    with_reducible refine (bound_yes k _ hw hk).mono ?_
    rintro e w1 ⟨rfl, hb1⟩
    go_wp2
    go_step3
    exact ⟨rfl, ⟨_, _, _, _, _, _, _, _, _, _, _, _, _, _, _, _, _, _, _, _, _, _, _, _, _, _, _, _, _, _, _, _, _, _, _, _, _, _, _, _, _, _, _, _, rfl, rfl⟩, hb1⟩
  · rintro a' w' ⟨⟨u0, u1, u2, u3, u4, u5, u6, u7, u8, u9, u10, u11, u12, u13, u14, u15, u16, u17, u18, u19, u20, u21, u22, u23, u24, u25, u26, u27, u28, u29, u30, u31, u32, u33, u34, u35, u36, u37, u38, u39, u40, u41, u42, u43, rfl, rfl⟩, hb⟩
    go_wp2
    simp only [Exit.jump]
    go_ret2
    exact ⟨rfl, hb⟩

theorem val_lt7 {l : List UInt8} {k : Nat} (h : k ≤ 7) : Num.val (l.take k) < 72057594037927936 := by
  have h1 := Num.val_lt (l.take k)
  have h2 : (l.take k).length ≤ 7 := Nat.le_trans (List.length_take_le _ _) h
  exact Nat.lt_of_lt_of_le h1 (Nat.le_trans (Nat.pow_le_pow_right (by omega) h2) (by decide))
theorem val_lt8 {l : List UInt8} {k : Nat} (h : k ≤ 8) : Num.val (l.take k) < 18446744073709551616 := by
  have h1 := Num.val_lt (l.take k)
  have h2 : (l.take k).length ≤ 8 := Nat.le_trans (List.length_take_le _ _) h
  exact Nat.lt_of_lt_of_le h1 (Nat.le_trans (Nat.pow_le_pow_right (by omega) h2) (by decide))
theorem val_take_succ {l : List UInt8} {k : Nat} {x : UInt8} (h : l[k]? = some x) : Num.val (l.take (k + 1)) = 256 * Num.val (l.take k) + x.toNat := by
  rw [List.take_add_one, h]
  exact Num.val_snoc _ _
theorem or_low (v : Nat) (x : UInt8) (h : v < 72057594037927936) : bits .or .u64 ((v : Int) * 256) (x.toNat : Int) = ((256 * v + x.toNat : Nat) : Int) := by
  have hx := Num.byte_lt x
  have h1 := u64_or_nat (v * 256) x.toNat (by omega) (by omega)
  have h2 : 2 ^ 8 * v + x.toNat = 2 ^ 8 * v ||| x.toNat := Nat.two_pow_add_eq_or_of_lt hx v
  rw [show (256 * v + x.toNat : Nat) = 2 ^ 8 * v + x.toNat from rfl, h2, Nat.mul_comm, ← h1]
  rfl

set_option maxRecDepth 100000 in
set_option maxHeartbeats 1000000 in
theorem first_long (A : Option Addr) (n c : Nat) (l : List UInt8) (k : Nat) (w : World) (hw : Wd w) (h : Rd w A n c l) (hk : Num.IsW k) (hn : k ≤ n) (hv : Num.most k < (Num.val (l.take k) : Int)) :
    Calls Tryd.prog 54 #[.slice A n c, .int .i64 (k : Int)] w (FirstIs w 0 2) := by
  have hk8 := hk.pos
  have hc := h.2.1
  obtain ⟨b, o, rfl, _⟩ := h.at_ (by omega)
  have q1 : decide ((n : Int) < (k : Int)) = false := by simp; omega
  have q1' : decide (n < k) = false := by simp; omega
  have hm := Num.most_lt hk
  have hmm : Num.most k ≤ 4611686018427387904 := by rcases hk with rfl | rfl | rfl <;> decide
  have hm0 := hm.1
  clear hm
  go_enter Tryd.func54, Tryd.ntmps54
  go_wp2
  refine wp_scope_jumps 0 (fun a' w' => At44 2 a' ∧ Below w.heap.size w w') (fun _ _ => 0) rfl ?_ ?_
  · go_wp2_with fail
    with_reducible refine (bound_yes k _ hw hk).mono ?_
    rintro e w1 ⟨rfl, hb1⟩
    have h1 := h.below hb1
    go_wp2
    go_loop [6, 27] (fun s i => ∃ j : Nat, j ≤ k ∧ i = .int .i64 j ∧ s = .int .u64 (Num.val (l.take j) : Nat)) (fun _ i => k - (intOf i).toNat)
    case atStart => exact ⟨0, Nat.zero_le _, rfl, rfl⟩
    case round =>
      obtain ⟨j, hj, rfl, rfl⟩ := hrel
      by_cases hjk : j < k
      · have hlt := val_lt7 (l := l) (k := j) (by omega)
        obtain ⟨b', o', hA, hcell⟩ := h1.at_ (by omega)
        injection hA with hA
        injection hA with e1 e2
        subst e1; subst e2
        obtain ⟨x, hx, hc1⟩ := hcell j (by omega)
        clear hcell
        have HS := hidT (val_take_succ hx)
        have HO := hidT (or_low _ x hlt)
        have hxb := Num.byte_lt x
        clear hx
        go_wp2
        rw [HO.out, ← HS.out]
        go_round
        case rel => exact ⟨j + 1, by omega, by go_num, rfl⟩
        case measure => simp [intOf]; omega
      · obtain rfl : j = k := by omega
        have hlt := val_lt8 (l := l) (k := j) (by omega)
        have q2 : decide (Num.most j < (Num.val (l.take j) : Int)) = true := by simpa using hv
        go_wp2
        go_step3
        exact ⟨rfl, ⟨_, _, _, _, _, _, _, _, _, _, _, _, _, _, _, _, _, _, _, _, _, _, _, _, _, _, _, _, _, _, _, _, _, _, _, _, _, _, _, _, _, _, _, _, rfl, rfl⟩, hb1⟩
  · rintro a' w' ⟨⟨u0, u1, u2, u3, u4, u5, u6, u7, u8, u9, u10, u11, u12, u13, u14, u15, u16, u17, u18, u19, u20, u21, u22, u23, u24, u25, u26, u27, u28, u29, u30, u31, u32, u33, u34, u35, u36, u37, u38, u39, u40, u41, u42, u43, rfl, rfl⟩, hb⟩
    go_wp2
    simp only [Exit.jump]
    go_ret2
    exact ⟨rfl, hb⟩
end Go.Proofs.YtpahkkblkdkefaaDoor
