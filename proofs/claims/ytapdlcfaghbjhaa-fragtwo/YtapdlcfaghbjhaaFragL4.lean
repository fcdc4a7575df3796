/- The law FragOrder, walked. (Written by wip/gen/fragl4.py.) -/
import Derived.Test.YtapdlcfaghbjhaaFragShown
set_option maxRecDepth 100000
namespace Go.Proofs.Ytapdlcfaghbjhaa
open Go.RowKit
set_option linter.unusedVariables false

theorem addOf_no {p : Pt} {seq index total : Int} {pc : List UInt8} (h : fits p index total = false) : addOf p seq index total pc = ⟨p, [], false, 2⟩ := by
  unfold addOf
  rw [h]
  rfl
theorem addOf_yes {p : Pt} {seq index total : Int} {pc : List UInt8} (hp : p.Ok) (h : fits p index total = true) : (addOf p seq index total pc).err = 0 ∧ (addOf p seq index total pc).whole = decide (index = total - 1) := by
  unfold addOf
  rw [if_pos h]
  simp only [fits, Bool.and_eq_true, decide_eq_true_eq, Bool.or_eq_true] at h
  obtain ⟨⟨⟨f1, f2⟩, rfl⟩, f4⟩ := h
  have e : (nextP p seq total pc).got = total ↔ p.got = total - 1 := by
    unfold nextP
    by_cases h0 : p.got = 0
    · rw [if_pos h0, h0]
      dsimp only
      omega
    · rw [if_neg h0]
      dsimp only
      have := hp.2.2
      unfold I64 at this
      rw [IntKind.wrap_i64]
      omega
  by_cases hg : (nextP p seq total pc).got = total
  · rw [if_pos hg]
    exact ⟨rfl, by simpa using (e.1 hg)⟩
  · rw [if_neg hg]
    refine ⟨rfl, ?_⟩
    have : ¬ p.got = total - 1 := fun h => hg (e.2 h)
    simpa using this

theorem flong (p : Pt) (A : Option Addr) (n c : Nat) (index total : Int) (B : Option Addr) (m d : Nat) (w : World) (h : 2000 < n ∨ 2000 < m) :
    Calls Try.prog 6 #[.agg #[.int .i64 p.seq, .int .i64 p.total, .int .i64 p.got, .slice A n c, .int .i64 index, .int .i64 total, .slice B m d]] w (Yes w) := by
  obtain ⟨g0, g1, hb0⟩ := two_alloc w (.cells #[.int .i64 p.seq, .int .i64 p.total, .int .i64 p.got, .slice A n c, .int .i64 index, .int .i64 total, .slice B m d] 42) (.cells #[.int .i64 p.seq, .int .i64 p.total, .int .i64 p.got, .slice A n c] 24)
  by_cases h1 : 2000 < n
  · have q1 : decide ((2000 : Int) < (n : Int)) = true := by simp; omega
    have p1 : decide (2000 < n) = true := by simp; omega
    go_enter Try.func6, Try.ntmps6
    go_wp2_with fail
    with_reducible refine (fshown_any _).mono ?_
    rintro e w1 ⟨rfl, hb1⟩
    obtain ⟨k0, k1, k2, k3⟩ := cells4 (keepH g1 hb1)
    go_wp2
    go_ret
    exact ⟨rfl, bthen hb0 hb1⟩
  · have q1 : decide ((2000 : Int) < (n : Int)) = false := by simp; omega
    have p1 : decide (2000 < n) = false := by simp; omega
    have q2 : decide ((2000 : Int) < (m : Int)) = true := by simp; omega
    have p2 : decide (2000 < m) = true := by simp; omega
    go_enter Try.func6, Try.ntmps6
    go_wp2_with fail
    with_reducible refine (fshown_any _).mono ?_
    rintro e w1 ⟨rfl, hb1⟩
    obtain ⟨k0, k1, k2, k3⟩ := cells4 (keepH g1 hb1)
    go_wp2
    go_ret
    exact ⟨rfl, bthen hb0 hb1⟩

set_option maxRecDepth 100000 in
set_option maxHeartbeats 4000000 in
theorem forder_no (p : Pt) (A : Option Addr) (n c : Nat) (index total : Int) (B : Option Addr) (m d : Nat) (b : List UInt8) (w : World) (hr : Rd w A n c p.b) (hp : Rd w B m d b) (ok : p.Ok) (it : I64 total) (hn : n ≤ 2000) (hm : m ≤ 2000) (hf : fits p index total = false) :
    Calls Try.prog 6 #[.agg #[.int .i64 p.seq, .int .i64 p.total, .int .i64 p.got, .slice A n c, .int .i64 index, .int .i64 total, .slice B m d]] w (Yes w) := by
  obtain ⟨g0, g1, hb0⟩ := two_alloc w (.cells #[.int .i64 p.seq, .int .i64 p.total, .int .i64 p.got, .slice A n c, .int .i64 index, .int .i64 total, .slice B m d] 42) (.cells #[.int .i64 p.seq, .int .i64 p.total, .int .i64 p.got, .slice A n c] 24)
  have q1 : decide ((2000 : Int) < (n : Int)) = false := by simp; omega
  have q2 : decide ((2000 : Int) < (m : Int)) = false := by simp; omega
  have p1 : decide (2000 < n) = false := by simp; omega
  have p2 : decide (2000 < m) = false := by simp; omega
  go_enter Try.func6, Try.ntmps6
  go_wp2_with fail
  with_reducible refine (fshown_any _).mono ?_
  rintro e w1 ⟨rfl, hb1⟩
  have hb01 := bthen hb0 hb1
  have x1 := keepH g1 hb1
  obtain ⟨k0, k1, k2, k3⟩ := cells4 x1
  have ha := add_any p A n c 7 index total B m d b w1 (hr.below hb01) (hp.below hb01) (by omega) (by omega)
  rw [addOf_no hf] at ha
  go_wp2_with fail
  with_reducible refine ha.mono ?_
  rintro e w2 ⟨A2, n2, c2, B2, m2, d2, rfl, hr2, hs2, hb2⟩
  dsimp only at hr2 hs2 ⊢
  have x2 := keepH x1 hb2
  have hb02 := bthen hb01 hb2
  clear ha k0 k1 k2 k3 g0 g1
  have hm2 : m2 = 0 := hs2.1.symm
  subst hm2
  have hw3 := nkeep w2 (.cells #[.int .i64 p.seq, .int .i64 p.total, .int .i64 p.got, .slice A2 n2 c2] 24)
  have y3 := alloc_at w2 (.cells #[.int .i64 p.seq, .int .i64 p.total, .int .i64 p.got, .slice A2 n2 c2] 24) _ rfl
  have x3 := keepH x2 hw3
  obtain ⟨k0, k1, k2, k3⟩ := cells4 x3
  obtain ⟨j0, j1, j2, j3⟩ := cells4 y3
  have hs := rsame_any p p A2 n2 c2 A n c (w2.alloc (.cells #[.int .i64 p.seq, .int .i64 p.total, .int .i64 p.got, .slice A2 n2 c2] 24)) (hr2.below hw3) (hr.below (bthen hb02 hw3)) true (by simp)
  go_wp2_with fail
  with_reducible refine hs.mono ?_
  rintro e w4 ⟨rfl, hb4⟩
  go_wp2
  go_ret
  exact ⟨rfl, bthen hb02 (bthen hw3 hb4)⟩

set_option maxRecDepth 100000 in
set_option maxHeartbeats 4000000 in
theorem forder_z_true (p : Pt) (A : Option Addr) (n c : Nat) (index total : Int) (B : Option Addr) (m d : Nat) (b : List UInt8) (w : World) (hr : Rd w A n c p.b) (hp : Rd w B m d b) (ok : p.Ok) (it : I64 total) (hn : n ≤ 2000) (hm : m ≤ 2000) (h0 : p.got = 0) (hf : fits p index total = true) (ht : index = total - 1) :
    Calls Try.prog 6 #[.agg #[.int .i64 p.seq, .int .i64 p.total, .int .i64 p.got, .slice A n c, .int .i64 index, .int .i64 total, .slice B m d]] w (Yes w) := by
  obtain ⟨g0, g1, hb0⟩ := two_alloc w (.cells #[.int .i64 p.seq, .int .i64 p.total, .int .i64 p.got, .slice A n c, .int .i64 index, .int .i64 total, .slice B m d] 42) (.cells #[.int .i64 p.seq, .int .i64 p.total, .int .i64 p.got, .slice A n c] 24)
  have q1 : decide ((2000 : Int) < (n : Int)) = false := by simp; omega
  have q2 : decide ((2000 : Int) < (m : Int)) = false := by simp; omega
  have p1 : decide (2000 < n) = false := by simp; omega
  have p2 : decide (2000 < m) = false := by simp; omega
  obtain ⟨a1, a2⟩ := addOf_yes (seq := 7) (pc := b) ok hf
  have a3 : decide (index = total - 1) = true := by simpa using ht
  rw [a3] at a2
  clear a3
  have hf' := hf
  simp only [fits, Bool.and_eq_true, decide_eq_true_eq, Bool.or_eq_true] at hf'
  obtain ⟨⟨⟨f1, f2⟩, f3⟩, f4⟩ := hf'
  obtain ⟨r, HR⟩ : ∃ r, Hid (addOf p 7 index total b = r) := ⟨_, hidT rfl⟩
  rw [HR.out] at a1 a2
  obtain ⟨rp, rs, rw_, re⟩ := r
  dsimp only at a1 a2
  subst a1 a2
  have q3 : (index != p.got) = false := by simp [f3]
  have q4 : decide (total < 1) = false := by simp; omega
  have q5 : decide (32 < total) = false := by simp; omega
  have q8 : IntKind.i64.wrap (total - 1) = total - 1 := IntWalk.i64_in _ (by omega)
  have q9 : (index == total - 1) = true := by simpa using ht
  have q6 : (p.got != 0) = false := by simp [h0]
  have q7 : (p.got == 0) = true := by simp [h0]
  have HF3 := hidT f3
  have HH0 := hidT h0
  have HHT := hidT ht
  clear f3 f4 h0 ht hf
  go_enter Try.func6, Try.ntmps6
  go_wp2_with fail
  with_reducible refine (fshown_any _).mono ?_
  rintro e w1 ⟨rfl, hb1⟩
  have hb01 := bthen hb0 hb1
  have x1 := keepH g1 hb1
  obtain ⟨k0, k1, k2, k3⟩ := cells4 x1
  have ha := add_any p A n c 7 index total B m d b w1 (hr.below hb01) (hp.below hb01) (by omega) (by omega)
  rw [HR.out] at ha
  go_wp2_with fail
  with_reducible refine ha.mono ?_
  rintro e w2 ⟨A2, n2, c2, B2, m2, d2, rfl, hr2, hs2, hb2⟩
  dsimp only at hr2 hs2 ⊢
  have x2 := keepH x1 hb2
  have hb02 := bthen hb01 hb2
  clear ha k0 k1 k2 k3 g0 g1
  have hw3 := nkeep w2 (.cells #[.int .i64 rp.seq, .int .i64 rp.total, .int .i64 rp.got, .slice A2 n2 c2] 24)
  have x3 := keepH x2 hw3
  obtain ⟨k0, k1, k2, k3⟩ := cells4 x3
  go_wp2
  go_ret
  exact ⟨rfl, bthen hb02 hw3⟩

set_option maxRecDepth 100000 in
set_option maxHeartbeats 4000000 in
theorem forder_z_false (p : Pt) (A : Option Addr) (n c : Nat) (index total : Int) (B : Option Addr) (m d : Nat) (b : List UInt8) (w : World) (hr : Rd w A n c p.b) (hp : Rd w B m d b) (ok : p.Ok) (it : I64 total) (hn : n ≤ 2000) (hm : m ≤ 2000) (h0 : p.got = 0) (hf : fits p index total = true) (ht : index ≠ total - 1) :
    Calls Try.prog 6 #[.agg #[.int .i64 p.seq, .int .i64 p.total, .int .i64 p.got, .slice A n c, .int .i64 index, .int .i64 total, .slice B m d]] w (Yes w) := by
  obtain ⟨g0, g1, hb0⟩ := two_alloc w (.cells #[.int .i64 p.seq, .int .i64 p.total, .int .i64 p.got, .slice A n c, .int .i64 index, .int .i64 total, .slice B m d] 42) (.cells #[.int .i64 p.seq, .int .i64 p.total, .int .i64 p.got, .slice A n c] 24)
  have q1 : decide ((2000 : Int) < (n : Int)) = false := by simp; omega
  have q2 : decide ((2000 : Int) < (m : Int)) = false := by simp; omega
  have p1 : decide (2000 < n) = false := by simp; omega
  have p2 : decide (2000 < m) = false := by simp; omega
  obtain ⟨a1, a2⟩ := addOf_yes (seq := 7) (pc := b) ok hf
  have a3 : decide (index = total - 1) = false := by simpa using ht
  rw [a3] at a2
  clear a3
  have hf' := hf
  simp only [fits, Bool.and_eq_true, decide_eq_true_eq, Bool.or_eq_true] at hf'
  obtain ⟨⟨⟨f1, f2⟩, f3⟩, f4⟩ := hf'
  obtain ⟨r, HR⟩ : ∃ r, Hid (addOf p 7 index total b = r) := ⟨_, hidT rfl⟩
  rw [HR.out] at a1 a2
  obtain ⟨rp, rs, rw_, re⟩ := r
  dsimp only at a1 a2
  subst a1 a2
  have q3 : (index != p.got) = false := by simp [f3]
  have q4 : decide (total < 1) = false := by simp; omega
  have q5 : decide (32 < total) = false := by simp; omega
  have q8 : IntKind.i64.wrap (total - 1) = total - 1 := IntWalk.i64_in _ (by omega)
  have q9 : (index == total - 1) = false := by simpa using ht
  have q6 : (p.got != 0) = false := by simp [h0]
  have q7 : (p.got == 0) = true := by simp [h0]
  have HF3 := hidT f3
  have HH0 := hidT h0
  have HHT := hidT ht
  clear f3 f4 h0 ht hf
  go_enter Try.func6, Try.ntmps6
  go_wp2_with fail
  with_reducible refine (fshown_any _).mono ?_
  rintro e w1 ⟨rfl, hb1⟩
  have hb01 := bthen hb0 hb1
  have x1 := keepH g1 hb1
  obtain ⟨k0, k1, k2, k3⟩ := cells4 x1
  have ha := add_any p A n c 7 index total B m d b w1 (hr.below hb01) (hp.below hb01) (by omega) (by omega)
  rw [HR.out] at ha
  go_wp2_with fail
  with_reducible refine ha.mono ?_
  rintro e w2 ⟨A2, n2, c2, B2, m2, d2, rfl, hr2, hs2, hb2⟩
  dsimp only at hr2 hs2 ⊢
  have x2 := keepH x1 hb2
  have hb02 := bthen hb01 hb2
  clear ha k0 k1 k2 k3 g0 g1
  have hw3 := nkeep w2 (.cells #[.int .i64 rp.seq, .int .i64 rp.total, .int .i64 rp.got, .slice A2 n2 c2] 24)
  have x3 := keepH x2 hw3
  obtain ⟨k0, k1, k2, k3⟩ := cells4 x3
  go_wp2
  go_ret
  exact ⟨rfl, bthen hb02 hw3⟩

set_option maxRecDepth 100000 in
set_option maxHeartbeats 4000000 in
theorem forder_nz_true (p : Pt) (A : Option Addr) (n c : Nat) (index total : Int) (B : Option Addr) (m d : Nat) (b : List UInt8) (w : World) (hr : Rd w A n c p.b) (hp : Rd w B m d b) (ok : p.Ok) (it : I64 total) (hn : n ≤ 2000) (hm : m ≤ 2000) (h0 : p.got ≠ 0) (hf : fits p index total = true) (ht : index = total - 1) :
    Calls Try.prog 6 #[.agg #[.int .i64 p.seq, .int .i64 p.total, .int .i64 p.got, .slice A n c, .int .i64 index, .int .i64 total, .slice B m d]] w (Yes w) := by
  obtain ⟨g0, g1, hb0⟩ := two_alloc w (.cells #[.int .i64 p.seq, .int .i64 p.total, .int .i64 p.got, .slice A n c, .int .i64 index, .int .i64 total, .slice B m d] 42) (.cells #[.int .i64 p.seq, .int .i64 p.total, .int .i64 p.got, .slice A n c] 24)
  have q1 : decide ((2000 : Int) < (n : Int)) = false := by simp; omega
  have q2 : decide ((2000 : Int) < (m : Int)) = false := by simp; omega
  have p1 : decide (2000 < n) = false := by simp; omega
  have p2 : decide (2000 < m) = false := by simp; omega
  obtain ⟨a1, a2⟩ := addOf_yes (seq := 7) (pc := b) ok hf
  have a3 : decide (index = total - 1) = true := by simpa using ht
  rw [a3] at a2
  clear a3
  have hf' := hf
  simp only [fits, Bool.and_eq_true, decide_eq_true_eq, Bool.or_eq_true] at hf'
  obtain ⟨⟨⟨f1, f2⟩, f3⟩, f4⟩ := hf'
  obtain ⟨r, HR⟩ : ∃ r, Hid (addOf p 7 index total b = r) := ⟨_, hidT rfl⟩
  rw [HR.out] at a1 a2
  obtain ⟨rp, rs, rw_, re⟩ := r
  dsimp only at a1 a2
  subst a1 a2
  have q3 : (index != p.got) = false := by simp [f3]
  have q4 : decide (total < 1) = false := by simp; omega
  have q5 : decide (32 < total) = false := by simp; omega
  have q8 : IntKind.i64.wrap (total - 1) = total - 1 := IntWalk.i64_in _ (by omega)
  have q9 : (index == total - 1) = true := by simpa using ht
  have q6 : (p.got != 0) = true := by simp [h0]
  have q7 : (p.got == 0) = false := by simp [h0]
  have f5 : total = p.total := by rcases f4 with h | h; exact absurd h h0; exact h
  have qa : (total != p.total) = false := by simp [f5]
  have qb : (total == p.total) = true := by simp [f5]
  have HF3 := hidT f3
  have HH0 := hidT h0
  have HF5 := hidT f5
  clear f5
  have HHT := hidT ht
  clear f3 f4 h0 ht hf
  go_enter Try.func6, Try.ntmps6
  go_wp2_with fail
  with_reducible refine (fshown_any _).mono ?_
  rintro e w1 ⟨rfl, hb1⟩
  have hb01 := bthen hb0 hb1
  have x1 := keepH g1 hb1
  obtain ⟨k0, k1, k2, k3⟩ := cells4 x1
  have ha := add_any p A n c 7 index total B m d b w1 (hr.below hb01) (hp.below hb01) (by omega) (by omega)
  rw [HR.out] at ha
  go_wp2_with fail
  with_reducible refine ha.mono ?_
  rintro e w2 ⟨A2, n2, c2, B2, m2, d2, rfl, hr2, hs2, hb2⟩
  dsimp only at hr2 hs2 ⊢
  have x2 := keepH x1 hb2
  have hb02 := bthen hb01 hb2
  clear ha k0 k1 k2 k3 g0 g1
  have hw3 := nkeep w2 (.cells #[.int .i64 rp.seq, .int .i64 rp.total, .int .i64 rp.got, .slice A2 n2 c2] 24)
  have x3 := keepH x2 hw3
  obtain ⟨k0, k1, k2, k3⟩ := cells4 x3
  go_wp2
  go_ret
  exact ⟨rfl, bthen hb02 hw3⟩

set_option maxRecDepth 100000 in
set_option maxHeartbeats 4000000 in
theorem forder_nz_false (p : Pt) (A : Option Addr) (n c : Nat) (index total : Int) (B : Option Addr) (m d : Nat) (b : List UInt8) (w : World) (hr : Rd w A n c p.b) (hp : Rd w B m d b) (ok : p.Ok) (it : I64 total) (hn : n ≤ 2000) (hm : m ≤ 2000) (h0 : p.got ≠ 0) (hf : fits p index total = true) (ht : index ≠ total - 1) :
    Calls Try.prog 6 #[.agg #[.int .i64 p.seq, .int .i64 p.total, .int .i64 p.got, .slice A n c, .int .i64 index, .int .i64 total, .slice B m d]] w (Yes w) := by
  obtain ⟨g0, g1, hb0⟩ := two_alloc w (.cells #[.int .i64 p.seq, .int .i64 p.total, .int .i64 p.got, .slice A n c, .int .i64 index, .int .i64 total, .slice B m d] 42) (.cells #[.int .i64 p.seq, .int .i64 p.total, .int .i64 p.got, .slice A n c] 24)
  have q1 : decide ((2000 : Int) < (n : Int)) = false := by simp; omega
  have q2 : decide ((2000 : Int) < (m : Int)) = false := by simp; omega
  have p1 : decide (2000 < n) = false := by simp; omega
  have p2 : decide (2000 < m) = false := by simp; omega
  obtain ⟨a1, a2⟩ := addOf_yes (seq := 7) (pc := b) ok hf
  have a3 : decide (index = total - 1) = false := by simpa using ht
  rw [a3] at a2
  clear a3
  have hf' := hf
  simp only [fits, Bool.and_eq_true, decide_eq_true_eq, Bool.or_eq_true] at hf'
  obtain ⟨⟨⟨f1, f2⟩, f3⟩, f4⟩ := hf'
  obtain ⟨r, HR⟩ : ∃ r, Hid (addOf p 7 index total b = r) := ⟨_, hidT rfl⟩
  rw [HR.out] at a1 a2
  obtain ⟨rp, rs, rw_, re⟩ := r
  dsimp only at a1 a2
  subst a1 a2
  have q3 : (index != p.got) = false := by simp [f3]
  have q4 : decide (total < 1) = false := by simp; omega
  have q5 : decide (32 < total) = false := by simp; omega
  have q8 : IntKind.i64.wrap (total - 1) = total - 1 := IntWalk.i64_in _ (by omega)
  have q9 : (index == total - 1) = false := by simpa using ht
  have q6 : (p.got != 0) = true := by simp [h0]
  have q7 : (p.got == 0) = false := by simp [h0]
  have f5 : total = p.total := by rcases f4 with h | h; exact absurd h h0; exact h
  have qa : (total != p.total) = false := by simp [f5]
  have qb : (total == p.total) = true := by simp [f5]
  have HF3 := hidT f3
  have HH0 := hidT h0
  have HF5 := hidT f5
  clear f5
  have HHT := hidT ht
  clear f3 f4 h0 ht hf
  go_enter Try.func6, Try.ntmps6
  go_wp2_with fail
  with_reducible refine (fshown_any _).mono ?_
  rintro e w1 ⟨rfl, hb1⟩
  have hb01 := bthen hb0 hb1
  have x1 := keepH g1 hb1
  obtain ⟨k0, k1, k2, k3⟩ := cells4 x1
  have ha := add_any p A n c 7 index total B m d b w1 (hr.below hb01) (hp.below hb01) (by omega) (by omega)
  rw [HR.out] at ha
  go_wp2_with fail
  with_reducible refine ha.mono ?_
  rintro e w2 ⟨A2, n2, c2, B2, m2, d2, rfl, hr2, hs2, hb2⟩
  dsimp only at hr2 hs2 ⊢
  have x2 := keepH x1 hb2
  have hb02 := bthen hb01 hb2
  clear ha k0 k1 k2 k3 g0 g1
  have hw3 := nkeep w2 (.cells #[.int .i64 rp.seq, .int .i64 rp.total, .int .i64 rp.got, .slice A2 n2 c2] 24)
  have x3 := keepH x2 hw3
  obtain ⟨k0, k1, k2, k3⟩ := cells4 x3
  go_wp2
  go_ret
  exact ⟨rfl, bthen hb02 hw3⟩

theorem forder_any (p : Pt) (A : Option Addr) (n c : Nat) (index total : Int) (B : Option Addr) (m d : Nat) (b : List UInt8) (w : World) (hr : Rd w A n c p.b) (hp : Rd w B m d b) (ok : p.Ok) (it : I64 total) :
    Calls Try.prog 6 #[.agg #[.int .i64 p.seq, .int .i64 p.total, .int .i64 p.got, .slice A n c, .int .i64 index, .int .i64 total, .slice B m d]] w (Yes w) := by
  by_cases hl : 2000 < n ∨ 2000 < m
  · exact flong p A n c index total B m d w hl
  · cases hf : fits p index total with
    | false => exact forder_no p A n c index total B m d b w hr hp ok it (by omega) (by omega) hf
    | true =>
      by_cases h0 : p.got = 0
      · by_cases ht : index = total - 1
        · exact forder_z_true p A n c index total B m d b w hr hp ok it (by omega) (by omega) h0 hf ht
        · exact forder_z_false p A n c index total B m d b w hr hp ok it (by omega) (by omega) h0 hf ht
      · by_cases ht : index = total - 1
        · exact forder_nz_true p A n c index total B m d b w hr hp ok it (by omega) (by omega) h0 hf ht
        · exact forder_nz_false p A n c index total B m d b w hr hp ok it (by omega) (by omega) h0 hf ht
end Go.Proofs.Ytapdlcfaghbjhaa
