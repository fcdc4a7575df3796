/- What frag.Many, the document's Many, frag.follows, bytes.Equal, the two Same, slices.Grow of nothing and slices.Concat of two come to. -/
import Derived.Test.YtapdlcfaghbjhaaBA
import Derived.Test.YtapdlcfaghbjhaaFragMath
import Derived.Lib.AppendZeros
import Derived.Lib.SliceRun
import Derived.WalkMore
import Derived.LoopN
set_option maxRecDepth 100000
namespace Go.Proofs.Ytapdlcfaghbjhaa
open Go.RowKit
set_option linter.unusedVariables false

/-- The call says so, and leaves all as it was. -/
def JustN (w : World) (k : Int) (e : Ending) (w' : World) : Prop := e = .returned (.int .i64 k) ∧ w' = w
def JustB (w : World) (t : Bool) (e : Ending) (w' : World) : Prop := e = .returned (.bool t) ∧ w' = w
/-- The call says so, and turns nothing that was. -/
def Says (w : World) (t : Bool) (e : Ending) (w' : World) : Prop := e = .returned (.bool t) ∧ Below w.heap.size w w'

theorem many_any (n m : Int) (w : World) (hn : I64 n) (hm : I64 m) : Calls Try.prog 13 #[.int .i64 n, .int .i64 m] w (JustN w (manyI n m)) := by
  obtain ⟨hn1, hn2⟩ := hn
  obtain ⟨hm1, hm2⟩ := hm
  by_cases h1 : n < 0
  · have HK : Hid (manyI n m = 0) := by unfold manyI; exact hidT (if_pos (.inl h1))
    generalize manyI n m = r at HK
    have q1 : decide (n < 0) = true := by simpa using h1
    go_enter Try.func13, Try.ntmps13
    go_wp2
    go_ret
    rw [HK.out]
    exact ⟨rfl, rfl⟩
  · by_cases h2 : m < 1
    · have HK : Hid (manyI n m = 0) := by unfold manyI; exact hidT (if_pos (.inr h2))
      generalize manyI n m = r at HK
      have q1 : decide (n < 0) = false := by simpa using h1
      have q2 : decide (m < 1) = true := by simpa using h2
      go_enter Try.func13, Try.ntmps13
      go_wp2
      go_ret
      rw [HK.out]
      exact ⟨rfl, rfl⟩
    · have q1 : decide (n < 0) = false := by simpa using h1
      have q2 : decide (m < 1) = false := by simpa using h2
      by_cases h0 : n = 0
      · subst h0
        have HK : Hid (manyI 0 m = 1) := by unfold manyI; rw [if_neg (by omega), if_pos rfl]; exact hidT rfl
        generalize manyI 0 m = r at HK
        go_enter Try.func13, Try.ntmps13
        go_wp2
        go_ret
        rw [HK.out]
        exact ⟨rfl, rfl⟩
      · have HK : Hid (manyI n m = (n - 1) / m + 1) := by unfold manyI; rw [if_neg (by omega), if_neg h0]; exact hidT rfl
        generalize manyI n m = r at HK
        have q3 : (n == 0) = false := by simpa using h0
        have e1 : (n - 1).tdiv m = (n - 1) / m := Int.tdiv_eq_ediv_of_nonneg (by omega)
        have e2 : 0 ≤ (n - 1) / m := Int.ediv_nonneg (by omega) (by omega)
        have e3 : (n - 1) / m ≤ n - 1 := Int.ediv_le_self _ (by omega)
        have e4 : (m == 0) = false := by simp; omega
        have e5 : m ≠ 0 := by omega
        generalize (n - 1) / m = d at e1 e2 e3 HK
        have w1 : IntKind.i64.wrap (n - 1) = n - 1 := IntWalk.i64_in _ (by omega)
        have w2 : IntKind.i64.wrap d = d := IntWalk.i64_in _ (by omega)
        have w3 : IntKind.i64.wrap (d + 1) = d + 1 := IntWalk.i64_in _ (by omega)
        go_enter Try.func13, Try.ntmps13
        go_wp2
        go_ret
        rw [HK.out]
        exact ⟨rfl, rfl⟩

/-- The document's Many is the same number. -/
theorem rmany_num (n m : Int) (hn : 0 < n) (hm : 1 ≤ m) : (n - 1) / m + 1 = if 0 < n % m then n / m + 1 else n / m := by
  have e := Int.mul_ediv_add_emod n m
  have h1 := Int.emod_nonneg n (show m ≠ 0 by omega)
  have h2 := Int.emod_lt_of_pos n (show 0 < m by omega)
  split
  · rename_i h
    have : (n - 1) / m = n / m := by
      have e2 : n - 1 = (n % m - 1) + m * (n / m) := by omega
      conv => lhs; rw [e2]
      rw [Int.add_mul_ediv_left _ _ (by omega), Int.ediv_eq_zero_of_lt (by omega) (by omega)]
      omega
    rw [this]
  · rename_i h
    have : (n - 1) / m = n / m - 1 := by
      have e2 : n - 1 = (m - 1) + m * (n / m - 1) := by
        have : m * (n / m - 1) = m * (n / m) - m := by rw [Int.mul_sub, Int.mul_one]
        omega
      conv => lhs; rw [e2]
      rw [Int.add_mul_ediv_left _ _ (by omega), Int.ediv_eq_zero_of_lt (by omega) (by omega)]
      omega
    omega

theorem rmany_any (n m : Int) (w : World) (hn : I64 n) (hm : I64 m) : Calls Try.prog 14 #[.int .i64 n, .int .i64 m] w (JustN w (manyI n m)) := by
  obtain ⟨hn1, hn2⟩ := hn
  obtain ⟨hm1, hm2⟩ := hm
  by_cases h1 : n < 0
  · have HK : Hid (manyI n m = 0) := by unfold manyI; exact hidT (if_pos (.inl h1))
    generalize manyI n m = r at HK
    have q1 : decide (n < 0) = true := by simpa using h1
    go_enter Try.func14, Try.ntmps14
    go_wp2
    go_ret
    rw [HK.out]
    exact ⟨rfl, rfl⟩
  · by_cases h2 : m < 1
    · have HK : Hid (manyI n m = 0) := by unfold manyI; exact hidT (if_pos (.inr h2))
      generalize manyI n m = r at HK
      have q1 : decide (n < 0) = false := by simpa using h1
      have q2 : decide (m < 1) = true := by simpa using h2
      go_enter Try.func14, Try.ntmps14
      go_wp2
      go_ret
      rw [HK.out]
      exact ⟨rfl, rfl⟩
    · have q1 : decide (n < 0) = false := by simpa using h1
      have q2 : decide (m < 1) = false := by simpa using h2
      have e4 : (m == 0) = false := by simp; omega
      have e5 : m ≠ 0 := by omega
      have t1 : n.tdiv m = n / m := Int.tdiv_eq_ediv_of_nonneg (by omega)
      have t2 : n.tmod m = n % m := Int.tmod_eq_emod_of_nonneg (by omega)
      have e2 : 0 ≤ n / m := Int.ediv_nonneg (by omega) (by omega)
      have e3 : n / m ≤ n := Int.ediv_le_self _ (by omega)
      have e6 := Int.emod_nonneg n e5
      have e7 := Int.emod_lt_of_pos n (show 0 < m by omega)
      have HK : Hid (manyI n m = if n = 0 then 1 else (n - 1) / m + 1) := by unfold manyI; rw [if_neg (by omega)]; exact hidT rfl
      generalize manyI n m = r at HK
      by_cases h0 : n = 0
      · subst h0
        have HK2 : Hid (r = 1) := by have := HK.out; rw [if_pos rfl] at this; exact hidT this
        clear HK
        simp only [Int.zero_ediv, Int.zero_emod] at t1 t2
        go_enter Try.func14, Try.ntmps14
        go_wp2
        go_ret
        rw [HK2.out]
        exact ⟨rfl, rfl⟩
      · have q3 : (n == 0) = false := by simpa using h0
        have HN := rmany_num n m (by omega) (by omega)
        have HK2 : Hid (r = if 0 < n % m then n / m + 1 else n / m) := by have := HK.out; rw [if_neg h0, HN] at this; exact hidT this
        clear HK HN
        generalize n / m = d at t1 e2 e3 HK2
        generalize n % m = g at t2 e6 e7 HK2
        have w2 : IntKind.i64.wrap d = d := IntWalk.i64_in _ (by omega)
        have w4 : IntKind.i64.wrap g = g := IntWalk.i64_in _ (by omega)
        by_cases hg : 0 < g
        · have HK3 : Hid (r = d + 1) := by have := HK2.out; rw [if_pos hg] at this; exact hidT this
          have hdn : d + 1 ≤ 9223372036854775807 := by
            have e := Int.mul_ediv_add_emod n m
            have t1' := Int.tdiv_eq_ediv_of_nonneg (a := n) (b := m) (by omega)
            have t2' := Int.tmod_eq_emod_of_nonneg (a := n) (b := m) (by omega)
            rw [← t1', ← t2', t1, t2] at e
            have : 1 * d ≤ m * d := Int.mul_le_mul_of_nonneg_right (by omega) e2
            omega
          clear HK2
          have w3 : IntKind.i64.wrap (d + 1) = d + 1 := IntWalk.i64_in _ (by omega)
          have q4 : decide (0 < g) = true := by simpa using hg
          go_enter Try.func14, Try.ntmps14
          go_wp2
          go_ret
          rw [HK3.out]
          exact ⟨rfl, rfl⟩
        · have HK3 : Hid (r = d) := by have := HK2.out; rw [if_neg hg] at this; exact hidT this
          clear HK2
          have q4 : decide (0 < g) = false := by simpa using hg
          go_enter Try.func14, Try.ntmps14
          go_wp2
          go_ret
          rw [HK3.out]
          exact ⟨rfl, rfl⟩

/-- A message under way, as a value. -/
def IsPt (w : World) (v : Value) (p : Pt) : Prop := ∃ A n c, v = .agg #[.int .i64 p.seq, .int .i64 p.total, .int .i64 p.got, .slice A n c] ∧ Rd w A n c p.b
theorem IsPt.below {w w' : World} {v : Value} {p : Pt} (h : IsPt w v p) (hb : Below w.heap.size w w') : IsPt w' v p := by
  obtain ⟨A, n, c, rfl, hr⟩ := h
  exact ⟨A, n, c, rfl, hr.below hb⟩
theorem cells4 {w : World} {g : Nat} {a0 a1 a2 a3 : Value} {t : TypeId} (h : w.heap[g]? = some (.cells #[a0, a1, a2, a3] t (0, 0))) : w.cell? ⟨g, 0, none⟩ = some a0 ∧ w.cell? ⟨g, 1, none⟩ = some a1 ∧ w.cell? ⟨g, 2, none⟩ = some a2 ∧ w.cell? ⟨g, 3, none⟩ = some a3 :=
  ⟨cell_at h 0 rfl, cell_at h 1 rfl, cell_at h 2 rfl, cell_at h 3 rfl⟩

theorem follows_any (p : Pt) (A : Option Addr) (n c : Nat) (index total : Int) (w : World) (t : Bool) (ht : fits p index total = t) :
    Calls Try.prog 20 #[.agg #[.int .i64 p.seq, .int .i64 p.total, .int .i64 p.got, .slice A n c], .int .i64 index, .int .i64 total] w (Says w t) := by
  have HT := hidT ht
  clear ht
  obtain ⟨sq, tt, gt, b⟩ := p
  dsimp only
  have hh := alloc_at w (.cells #[.int .i64 sq, .int .i64 tt, .int .i64 gt, .slice A n c] 24) w.heap.size rfl
  obtain ⟨k0, k1, k2, k3⟩ := cells4 hh
  have hbel : Below w.heap.size w (w.alloc (.cells #[.int .i64 sq, .int .i64 tt, .int .i64 gt, .slice A n c] 24)) := (Below.refl _ _).alloc (Nat.le_refl _) _
  clear hh
  by_cases h1 : total < 1
  · have q1 : decide (total < 1) = true := by simpa using h1
    have HF : Hid (t = false) := by have := HT.out; unfold fits at this; rw [show decide (1 ≤ total) = false from by simpa using h1] at this; exact hidT (by simpa using this.symm)
    go_enter Try.func20, Try.ntmps20
    go_wp2
    go_ret
    rw [HF.out]
    exact ⟨rfl, hbel⟩
  · by_cases h2 : 32 < total
    · have q1 : decide (total < 1) = false := by simpa using h1
      have q2 : decide (32 < total) = true := by simpa using h2
      have HF : Hid (t = false) := by have := HT.out; unfold fits at this; rw [show decide (total ≤ 32) = false from by simpa using h2] at this; exact hidT (by simpa using this.symm)
      go_enter Try.func20, Try.ntmps20
      go_wp2
      go_ret
      rw [HF.out]
      exact ⟨rfl, hbel⟩
    · have q1 : decide (total < 1) = false := by simpa using h1
      have q2 : decide (32 < total) = false := by simpa using h2
      by_cases h3 : index = gt
      · subst h3
        have HF : Hid ((decide (index = 0) || decide (total = tt)) = t) := by
          have := HT.out
          unfold fits at this
          rw [show decide (1 ≤ total) = true from by simp; omega, show decide (total ≤ 32) = true from by simp; omega] at this
          exact hidT (by simpa using this)
        by_cases h4 : index = 0
        · subst h4
          have HF2 : Hid (t = true) := hidT (by have := HF.out; simpa using this.symm)
          clear HF HT
          go_enter Try.func20, Try.ntmps20
          go_wp2
          go_ret
          rw [HF2.out]
          exact ⟨rfl, hbel⟩
        · have q3 : (index == 0) = false := by simpa using h4
          by_cases h5 : total = tt
          · subst h5
            have HF2 : Hid (t = true) := hidT (by have := HF.out; simpa using this.symm)
            clear HF HT
            go_enter Try.func20, Try.ntmps20
            go_wp2
            go_ret
            rw [HF2.out]
            exact ⟨rfl, hbel⟩
          · have HF2 : Hid (t = false) := hidT (by have := HF.out; simpa [h4, h5] using this.symm)
            have q5 : (total == tt) = false := by simpa using h5
            clear HF HT
            go_enter Try.func20, Try.ntmps20
            go_wp2
            go_ret
            rw [HF2.out]
            exact ⟨rfl, hbel⟩
      · have q3 : (index != gt) = true := by simpa using h3
        have q4 : (index == gt) = false := by simpa using h3
        have HF : Hid (t = false) := by have := HT.out; unfold fits at this; rw [show decide (index = gt) = false from by simpa using h3] at this; exact hidT (by simpa using this.symm)
        clear HT
        go_enter Try.func20, Try.ntmps20
        go_wp2
        go_ret
        rw [HF.out]
        exact ⟨rfl, hbel⟩
end Go.Proofs.Ytapdlcfaghbjhaa
