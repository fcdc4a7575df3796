/- The law FragTells, walked. (Written by wip/gen/fragl1.py.) -/
import Derived.Test.YtapdlcfaghbjhaaFragShown
import Derived.Deep.RegionHeldLaw
set_option maxRecDepth 100000
namespace Go.Proofs.Ytapdlcfaghbjhaa
open Go.RowKit
set_option linter.unusedVariables false

theorem three_alloc (w : World) (o0 o1 o2 : Obj) : (((w.alloc o0).alloc o1).alloc o2).heap[w.heap.size + 1]? = some o1 ∧ (((w.alloc o0).alloc o1).alloc o2).heap[w.heap.size + 1 + 1]? = some o2 ∧ Below w.heap.size w (((w.alloc o0).alloc o1).alloc o2) :=
  ⟨by rw [alloc_old _ _ _ (by simp only [size_alloc]; omega)]; exact alloc_at _ _ _ (by simp only [size_alloc]), alloc_at _ _ _ (by simp only [size_alloc]), bthen (nkeep _ _) (bthen (nkeep _ _) (nkeep _ _))⟩

set_option maxHeartbeats 2000000 in
theorem ftells_l1 (B : Option Addr) (m d : Nat) (n : Int) (p : Pt) (A : Option Addr) (k c : Nat) (q : Pt) (A' : Option Addr) (k' c' : Nat) (index total : Int) (w : World) (h : 2000 < m) :
    Calls Try.prog 3 #[.agg #[.slice B m d, .int .i64 n, .int .i64 p.seq, .int .i64 p.total, .int .i64 p.got, .slice A k c, .int .i64 q.seq, .int .i64 q.total, .int .i64 q.got, .slice A' k' c', .int .i64 index, .int .i64 total]] w (Yes w) := by
  obtain ⟨g1, g2, hb0⟩ := three_alloc w (.cells #[.slice B m d, .int .i64 n, .int .i64 p.seq, .int .i64 p.total, .int .i64 p.got, .slice A k c, .int .i64 q.seq, .int .i64 q.total, .int .i64 q.got, .slice A' k' c', .int .i64 index, .int .i64 total] 26) (.cells #[.int .i64 p.seq, .int .i64 p.total, .int .i64 p.got, .slice A k c] 24) (.cells #[.int .i64 q.seq, .int .i64 q.total, .int .i64 q.got, .slice A' k' c'] 24)
  have q1 : decide ((2000 : Int) < (m : Int)) = true := by simp; omega
  have p1 : decide (2000 < m) = true := by simp; omega
  go_enter Try.func3, Try.ntmps3
  go_wp2_with fail
  with_reducible refine (fshown_any _).mono ?_
  rintro e w1 ⟨rfl, hb1⟩
  obtain ⟨k0, k1, k2, k3⟩ := cells4 (keepH g1 hb1)
  obtain ⟨j0, j1, j2, j3⟩ := cells4 (keepH g2 hb1)
  go_wp2
  go_ret
  exact ⟨rfl, bthen hb0 hb1⟩

set_option maxHeartbeats 2000000 in
theorem ftells_l2 (B : Option Addr) (m d : Nat) (n : Int) (p : Pt) (A : Option Addr) (k c : Nat) (q : Pt) (A' : Option Addr) (k' c' : Nat) (index total : Int) (w : World) (h0 : m ≤ 2000) (h : 2000 < k) :
    Calls Try.prog 3 #[.agg #[.slice B m d, .int .i64 n, .int .i64 p.seq, .int .i64 p.total, .int .i64 p.got, .slice A k c, .int .i64 q.seq, .int .i64 q.total, .int .i64 q.got, .slice A' k' c', .int .i64 index, .int .i64 total]] w (Yes w) := by
  obtain ⟨g1, g2, hb0⟩ := three_alloc w (.cells #[.slice B m d, .int .i64 n, .int .i64 p.seq, .int .i64 p.total, .int .i64 p.got, .slice A k c, .int .i64 q.seq, .int .i64 q.total, .int .i64 q.got, .slice A' k' c', .int .i64 index, .int .i64 total] 26) (.cells #[.int .i64 p.seq, .int .i64 p.total, .int .i64 p.got, .slice A k c] 24) (.cells #[.int .i64 q.seq, .int .i64 q.total, .int .i64 q.got, .slice A' k' c'] 24)
  have q1 : decide ((2000 : Int) < (m : Int)) = false := by simp; omega
  have p1 : decide (2000 < m) = false := by simp; omega
  have q2 : decide ((2000 : Int) < (k : Int)) = true := by simp; omega
  have p2 : decide (2000 < k) = true := by simp; omega
  go_enter Try.func3, Try.ntmps3
  go_wp2_with fail
  with_reducible refine (fshown_any _).mono ?_
  rintro e w1 ⟨rfl, hb1⟩
  obtain ⟨k0, k1, k2, k3⟩ := cells4 (keepH g1 hb1)
  obtain ⟨j0, j1, j2, j3⟩ := cells4 (keepH g2 hb1)
  go_wp2
  go_ret
  exact ⟨rfl, bthen hb0 hb1⟩

set_option maxHeartbeats 2000000 in
theorem ftells_l3 (B : Option Addr) (m d : Nat) (n : Int) (p : Pt) (A : Option Addr) (k c : Nat) (q : Pt) (A' : Option Addr) (k' c' : Nat) (index total : Int) (w : World) (h0 : m ≤ 2000) (h1 : k ≤ 2000) (h : 2000 < k') :
    Calls Try.prog 3 #[.agg #[.slice B m d, .int .i64 n, .int .i64 p.seq, .int .i64 p.total, .int .i64 p.got, .slice A k c, .int .i64 q.seq, .int .i64 q.total, .int .i64 q.got, .slice A' k' c', .int .i64 index, .int .i64 total]] w (Yes w) := by
  obtain ⟨g1, g2, hb0⟩ := three_alloc w (.cells #[.slice B m d, .int .i64 n, .int .i64 p.seq, .int .i64 p.total, .int .i64 p.got, .slice A k c, .int .i64 q.seq, .int .i64 q.total, .int .i64 q.got, .slice A' k' c', .int .i64 index, .int .i64 total] 26) (.cells #[.int .i64 p.seq, .int .i64 p.total, .int .i64 p.got, .slice A k c] 24) (.cells #[.int .i64 q.seq, .int .i64 q.total, .int .i64 q.got, .slice A' k' c'] 24)
  have q1 : decide ((2000 : Int) < (m : Int)) = false := by simp; omega
  have p1 : decide (2000 < m) = false := by simp; omega
  have q2 : decide ((2000 : Int) < (k : Int)) = false := by simp; omega
  have p2 : decide (2000 < k) = false := by simp; omega
  have q3 : decide ((2000 : Int) < (k' : Int)) = true := by simp; omega
  have p3 : decide (2000 < k') = true := by simp; omega
  go_enter Try.func3, Try.ntmps3
  go_wp2_with fail
  with_reducible refine (fshown_any _).mono ?_
  rintro e w1 ⟨rfl, hb1⟩
  obtain ⟨k0, k1, k2, k3⟩ := cells4 (keepH g1 hb1)
  obtain ⟨j0, j1, j2, j3⟩ := cells4 (keepH g2 hb1)
  go_wp2
  go_ret
  exact ⟨rfl, bthen hb0 hb1⟩

set_option maxRecDepth 100000 in
set_option maxHeartbeats 8000000 in
theorem ftells_in (B : Option Addr) (m d : Nat) (n : Int) (p : Pt) (A : Option Addr) (k c : Nat) (q : Pt) (A' : Option Addr) (k' c' : Nat) (index total : Int) (b : List UInt8) (w : World) (hB : Rd w B m d b) (hA : Rd w A k c p.b) (hA' : Rd w A' k' c' q.b) (in_ : I64 n) (it : I64 total) (hm : m ≤ 2000) (hk : k ≤ 2000) (hk' : k' ≤ 2000) :
    Calls Try.prog 3 #[.agg #[.slice B m d, .int .i64 n, .int .i64 p.seq, .int .i64 p.total, .int .i64 p.got, .slice A k c, .int .i64 q.seq, .int .i64 q.total, .int .i64 q.got, .slice A' k' c', .int .i64 index, .int .i64 total]] w (Yes w) := by
  obtain ⟨g1, g2, hb0⟩ := three_alloc w (.cells #[.slice B m d, .int .i64 n, .int .i64 p.seq, .int .i64 p.total, .int .i64 p.got, .slice A k c, .int .i64 q.seq, .int .i64 q.total, .int .i64 q.got, .slice A' k' c', .int .i64 index, .int .i64 total] 26) (.cells #[.int .i64 p.seq, .int .i64 p.total, .int .i64 p.got, .slice A k c] 24) (.cells #[.int .i64 q.seq, .int .i64 q.total, .int .i64 q.got, .slice A' k' c'] 24)
  have q1 : decide ((2000 : Int) < (m : Int)) = false := by simp; omega
  have p1 : decide (2000 < m) = false := by simp; omega
  have q2 : decide ((2000 : Int) < (k : Int)) = false := by simp; omega
  have p2 : decide (2000 < k) = false := by simp; omega
  have q3 : decide ((2000 : Int) < (k' : Int)) = false := by simp; omega
  have p3 : decide (2000 < k') = false := by simp; omega
  go_enter Try.func3, Try.ntmps3
  go_wp2_with fail
  with_reducible refine (fshown_any _).mono ?_
  rintro e w1 ⟨rfl, hb1⟩
  have hb01 := bthen hb0 hb1
  have x1 := keepH g1 hb1
  have z1 := keepH g2 hb1
  obtain ⟨k0, k1, k2, k3⟩ := cells4 x1
  obtain ⟨j0, j1, j2, j3⟩ := cells4 z1
  obtain ⟨r, HRR⟩ : ∃ r, Hid (addOf p n index total b = r) := ⟨_, hidT rfl⟩
  obtain ⟨rp, rs, rw_, re⟩ := r
  have ha := add_any p A k c n index total B m d b w1 (hA.below hb01) (hB.below hb01) (by omega) (by omega)
  rw [HRR.out] at ha
  clear g1 g2
  go_wp2_with fail
  with_reducible refine ha.mono ?_
  rintro e w2 ⟨A2, n2, c2, B2, m2, d2, rfl, hr2, hs2, hb2⟩
  dsimp only at hr2 hs2 ⊢
  have hw2 := nkeep w2 (.cells #[.int .i64 rp.seq, .int .i64 rp.total, .int .i64 rp.got, .slice A2 n2 c2] 24)
  have y2 := alloc_at w2 (.cells #[.int .i64 rp.seq, .int .i64 rp.total, .int .i64 rp.got, .slice A2 n2 c2] 24) _ rfl
  have hb02 := bthen hb01 (bthen hb2 hw2)
  have x2 := keepH x1 (bthen hb2 hw2)
  have z2 := keepH z1 (bthen hb2 hw2)
  clear ha k0 k1 k2 k3 j0 j1 j2 j3
  obtain ⟨k0, k1, k2, k3⟩ := cells4 x2
  have hc := radd_any p A k c n index total B m d b (w2.alloc (.cells #[.int .i64 rp.seq, .int .i64 rp.total, .int .i64 rp.got, .slice A2 n2 c2] 24)) (hA.below hb02) (hB.below hb02) (by omega) (by omega)
  rw [HRR.out] at hc
  go_wp2_with fail
  with_reducible refine hc.mono ?_
  rintro e w3 ⟨A3, n3, c3, B3, m3, d3, rfl, hr3, hs3, hb3⟩
  dsimp only at hr3 hs3 ⊢
  obtain ⟨W, HW⟩ : ∃ W, Hid (w3.alloc (.cells #[.int .i64 rp.seq, .int .i64 rp.total, .int .i64 rp.got, .slice A3 n3 c3] 24) = W) := ⟨_, hidT rfl⟩
  have hw3 : Below w3.heap.size w3 W := by rw [← HW.out]; exact nkeep _ _
  have v3 : W.heap[w3.heap.size]? = some (.cells #[.int .i64 rp.seq, .int .i64 rp.total, .int .i64 rp.got, .slice A3 n3 c3] 24) := by rw [← HW.out]; exact alloc_at _ _ _ rfl
  have y3 := keepH y2 (bthen hb3 hw3)
  have x3 := keepH x2 (bthen hb3 hw3)
  have z3 := keepH z2 (bthen hb3 hw3)
  have hb0W := bthen hb02 (bthen hb3 hw3)
  have hr2W := hr2.below (bthen hw2 (bthen hb3 hw3))
  have hr3W := hr3.below hw3
  have hs2W := hs2.below (bthen hw2 (bthen hb3 hw3))
  have hs3W := hs3.below hw3
  have kx0 := fun w' (hb : Below W.heap.size W w') => (cells4 (keepH y3 hb)).1
  have kx1 := fun w' (hb : Below W.heap.size W w') => (cells4 (keepH y3 hb)).2.1
  have kx2 := fun w' (hb : Below W.heap.size W w') => (cells4 (keepH y3 hb)).2.2.1
  have kx3 := fun w' (hb : Below W.heap.size W w') => (cells4 (keepH y3 hb)).2.2.2
  have ky0 := fun w' (hb : Below W.heap.size W w') => (cells4 (keepH v3 hb)).1
  have ky1 := fun w' (hb : Below W.heap.size W w') => (cells4 (keepH v3 hb)).2.1
  have ky2 := fun w' (hb : Below W.heap.size W w') => (cells4 (keepH v3 hb)).2.2.1
  have ky3 := fun w' (hb : Below W.heap.size W w') => (cells4 (keepH v3 hb)).2.2.2
  have kp0 := fun w' (hb : Below W.heap.size W w') => (cells4 (keepH x3 hb)).1
  have kp1 := fun w' (hb : Below W.heap.size W w') => (cells4 (keepH x3 hb)).2.1
  have kp2 := fun w' (hb : Below W.heap.size W w') => (cells4 (keepH x3 hb)).2.2.1
  have kp3 := fun w' (hb : Below W.heap.size W w') => (cells4 (keepH x3 hb)).2.2.2
  have kq0 := fun w' (hb : Below W.heap.size W w') => (cells4 (keepH z3 hb)).1
  have kq1 := fun w' (hb : Below W.heap.size W w') => (cells4 (keepH z3 hb)).2.1
  have kq2 := fun w' (hb : Below W.heap.size W w') => (cells4 (keepH z3 hb)).2.2.1
  have kq3 := fun w' (hb : Below W.heap.size W w') => (cells4 (keepH z3 hb)).2.2.2
  have s2 := fun w' (hb : Below W.heap.size W w') => strs hs2W w' hb
  have s3 := fun w' (hb : Below W.heap.size W w') => strs hs3W w' hb
  have ss := str_same (rfl : rs = rs)
  obtain ⟨t, ht⟩ : ∃ t, decide (p = q) = t := ⟨_, rfl⟩
  obtain ⟨mm, HMM⟩ : ∃ mm, Hid (manyI n total = mm) := ⟨_, hidT rfl⟩
  obtain ⟨K, HK⟩ : ∃ K, Hid ((cutI b n).length = K) := ⟨_, hidT rfl⟩
  have C13 := hidT fun w' => many_any n total w' in_ it
  have C14 := hidT fun w' => rmany_any n total w' in_ it
  rw [HMM.out] at C13 C14
  have C16 := hidT fun w' (hb : Below W.heap.size W w') => cut_any B m d b n w' (hB.below (bthen hb0W hb)) (by omega) in_.2
  have C17 := hidT fun w' (hb : Below W.heap.size W w') => rcut_any B m d b n w' (hB.below (bthen hb0W hb)) (by omega) in_.2
  have C18 := hidT fun w' (hb : Below W.heap.size W w') => rsame_any rp rp A2 n2 c2 A3 n3 c3 w' (hr2W.below hb) (hr3W.below hb) true (by simp)
  have C19 := hidT fun w' (hb : Below W.heap.size W w') => fsame_any p q A k c A' k' c' w' (hA.below (bthen hb0W hb)) (hA'.below (bthen hb0W hb)) t ht
  have C20 := hidT fun w' (hb : Below W.heap.size W w') => rsame_any p q A k c A' k' c' w' (hA.below (bthen hb0W hb)) (hA'.below (bthen hb0W hb)) t ht
  have e1 : (mm == mm) = true := by simp
  have e2 : (rw_ == rw_) = true := by simp
  have e3 : (re == re) = true := by simp
  have e4 : (t == t) = true := by simp
  clear hc hr2 hr3 hs2 hs3 hr2W hr3W hs2W hs3W y2 y3 x1 x2 x3 z1 z2 z3 v3 k0 k1 k2 k3 ht hb3 hw3 hw2 hb2 hb02
  go_wp2_with fail
  rw [HW.out]
  clear HW
  go_region_held_law (fun w' => Below W.heap.size W w')
    (first | exact (Below.refl _ _).drew | exact hb20 | exact hb19 | exact hb18 | exact hb15 | exact hb17 | exact hb16)
    (first
      | (go_at_call 13; ((with_reducible refine (C13.out _).mono ?_); rintro e13 w13 ⟨rfl, rfl⟩))
      | (go_at_call 14; ((with_reducible refine (C14.out _).mono ?_); rintro e14 w14 ⟨rfl, rfl⟩))
      | (go_at_call 16; ((with_reducible refine (C16.out _ (Below.refl _ _).drew).mono ?_); intro e16 w16 hG16; obtain ⟨A16, c16, rs16, rfl, hR16, hL16, hb16'⟩ := hG16.open_ K HK.out; have hb16 : Below W.heap.size W w16 := undrew hb16'))
      | (go_at_call 17; ((with_reducible refine (C17.out w16 hb16).mono ?_); intro e17 w17 hG17; obtain ⟨A17, c17, rs17, rfl, hR17, hL17, hb17'⟩ := hG17.open_ K HK.out; have hb17 : Below W.heap.size W w17 := bthen hb16 hb17'))
      | (go_at_call 15; ((with_reducible refine (rpieces_any A16 K c16 rs16 A17 K c17 rs17 w17 (hR16.below hb17') hR17 true (by rw [hL16, hL17]; simp)).mono ?_); rintro e15 w15 ⟨rfl, hb15'⟩; have hb15 : Below W.heap.size W w15 := bthen hb17 hb15'))
      | (go_at_call 18; ((with_reducible refine (C18.out w15 hb15).mono ?_); rintro e18 w18 ⟨rfl, hb18'⟩; have hb18 : Below W.heap.size W w18 := bthen hb15 hb18'))
      | (go_at_call 19; ((with_reducible refine (C19.out w18 hb18).mono ?_); rintro e19 w19 ⟨rfl, hb19'⟩; have hb19 : Below W.heap.size W w19 := bthen hb18 hb19'))
      | (go_at_call 18; ((with_reducible refine (C20.out w19 hb19).mono ?_); rintro e20 w20 ⟨rfl, hb20'⟩; have hb20 : Below W.heap.size W w20 := bthen hb19 hb20'))
      | fail)
  all_goals
    go_wp2
    go_ret
    exact ⟨rfl, bthen hb0W hb20⟩

theorem ftells_any (B : Option Addr) (m d : Nat) (n : Int) (p : Pt) (A : Option Addr) (k c : Nat) (q : Pt) (A' : Option Addr) (k' c' : Nat) (index total : Int) (b : List UInt8) (w : World) (hB : Rd w B m d b) (hA : Rd w A k c p.b) (hA' : Rd w A' k' c' q.b) (in_ : I64 n) (it : I64 total) :
    Calls Try.prog 3 #[.agg #[.slice B m d, .int .i64 n, .int .i64 p.seq, .int .i64 p.total, .int .i64 p.got, .slice A k c, .int .i64 q.seq, .int .i64 q.total, .int .i64 q.got, .slice A' k' c', .int .i64 index, .int .i64 total]] w (Yes w) := by
  by_cases h1 : 2000 < m
  · exact ftells_l1 B m d n p A k c q A' k' c' index total w h1
  · by_cases h2 : 2000 < k
    · exact ftells_l2 B m d n p A k c q A' k' c' index total w (by omega) h2
    · by_cases h3 : 2000 < k'
      · exact ftells_l3 B m d n p A k c q A' k' c' index total w (by omega) (by omega) h3
      · exact ftells_in B m d n p A k c q A' k' c' index total b w hB hA hA' in_ it (by omega) (by omega) (by omega)
end Go.Proofs.Ytapdlcfaghbjhaa
