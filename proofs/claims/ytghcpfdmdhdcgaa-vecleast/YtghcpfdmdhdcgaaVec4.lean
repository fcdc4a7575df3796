/- What the laws' few, and the document's At, long, Below, Least, Sum, Max, Min and Same, come to. -/
import Derived.Test.YtghcpfdmdhdcgaaVec3
import Derived.Deep.QuietTactic
import Derived.BigQuiet
set_option maxRecDepth 100000
namespace Go.Proofs.Ytghcpfdmdhdcgaa
open Go.RowKit
set_option linter.unusedVariables false

/-- Are rows few, and short? -/
def fewOf (ls : List (List Int)) : Bool := decide (ls.length ≤ 50) && ls.all fun r => decide (r.length ≤ 50)
theorem fewOf_long {ls : List (List Int)} (h : 50 < ls.length) : fewOf ls = false := by simp [fewOf]; omega
theorem fewOf_wide {ls : List (List Int)} {r : List Int} {j : Nat} (hr : ls[j]? = some r) (h : 50 < r.length) : fewOf ls = false := by
  unfold fewOf
  rw [Bool.and_eq_false_iff]
  right
  rw [List.all_eq_false]
  exact ⟨r, List.mem_of_getElem? hr, by simp; omega⟩
theorem fewOf_yes {ls : List (List Int)} (h : ls.length ≤ 50) (hr : ∀ r ∈ ls, r.length ≤ 50) : fewOf ls = true := by
  simp only [fewOf, Bool.and_eq_true, decide_eq_true_eq, List.all_eq_true]
  exact ⟨h, hr⟩
theorem fewOf_iff {ls : List (List Int)} (h : fewOf ls = true) : ls.length ≤ 50 ∧ ∀ r ∈ ls, r.length ≤ 50 := by
  simpa only [fewOf, Bool.and_eq_true, decide_eq_true_eq, List.all_eq_true] using h

set_option maxHeartbeats 1000000 in
theorem few_any (A : Option Addr) (n c : Nat) (rs : List Rw) (w : World) (h : RdR w A n c rs) (t : Bool) (ht : fewOf (bs' rs) = t) :
    Calls Try.prog 9 #[.slice A n c] w (SaysB w t) := by
  have hs := h.sizeB
  have hle := h.le
  have HT := hidT ht
  have HS := hidT hs
  clear ht hs
  by_cases h50 : 50 < n
  · obtain rfl : t = false := by rw [← HT.out]; exact fewOf_long (by rw [HS.out]; exact h50)
    have q : decide ((50 : Int) < (n : Int)) = true := by simp; omega
    have q' : decide (50 < n) = true := by simpa using h50
    go_enter Try.func9, Try.ntmps9
    go_wp2
    go_ret
    exact ⟨rfl, rfl⟩
  · have q : decide ((50 : Int) < (n : Int)) = false := by simp; omega
    have q' : decide (50 < n) = false := by simpa using h50
    go_enter Try.func9, Try.ntmps9
    go_wp2
    go_loopw [3] (fun i w' => ∃ j : Nat, j ≤ n ∧ i = .int .i64 j ∧ Hid (∀ r ∈ (bs' rs).take j, r.length ≤ 50) ∧ w' = w) (fun i _ => n - (intOf i).toNat)
    case atStart => exact ⟨0, Nat.zero_le _, rfl, hidT (fun r hr => by simp at hr), rfl⟩
    case round =>
      obtain ⟨j, hj, rfl, HJ, rfl⟩ := hrel
      by_cases hjn : j < n
      · obtain ⟨b, o, r, rfl, hr, hbr, hR, hcr⟩ := h.at_ hjn
        have hrl := RdI.size hR
        have hrn := RdV.le hR
        have HB := hidT hbr
        have HRL := hidT hrl
        clear hr hbr hrl
        by_cases hr50 : 50 < r.n
        · obtain rfl : t = false := by rw [← HT.out]; exact fewOf_wide HB.out (by rw [HRL.out]; exact hr50)
          have p : decide ((50 : Int) < (r.n : Int)) = true := by simp; omega
          have p' : decide (50 < r.n) = true := by simpa using hr50
          go_wp2
          go_ret
          exact ⟨rfl, rfl⟩
        · have p : decide ((50 : Int) < (r.n : Int)) = false := by simp; omega
          have p' : decide (50 < r.n) = false := by simpa using hr50
          have HK : Hid (∀ q ∈ (bs' rs).take (j + 1), q.length ≤ 50) := hidT (by
            intro q hq
            rw [List.take_add_one, HB.out, Option.toList_some, List.mem_append, List.mem_singleton] at hq
            rcases hq with hq | rfl
            · exact HJ.out q hq
            · rw [HRL.out]; omega)
          go_wp2
          exact ⟨⟨j + 1, by omega, by go_num, HK, trivial⟩, by simp [intOf]; omega⟩
      · obtain rfl : j = n := by omega
        obtain rfl : t = true := by
          rw [← HT.out]
          refine fewOf_yes (by rw [HS.out]; omega) ?_
          have := HJ.out
          rwa [List.take_of_length_le (by rw [HS.out]; omega)] at this
        go_wp2
        go_ret
        exact ⟨rfl, rfl⟩

theorem rat_any (A : Option Addr) (n c : Nat) (l : List Int) (i : Int) (w : World) (h : RdI w A n c l) :
    Calls Try.prog 24 #[.slice A n c, .int .i64 i] w (SaysI w (atI l i)) := by
  have hl := RdI.size h
  by_cases h0 : i < 0
  · have e : atI l i = 0 := by unfold atI; rw [if_pos h0]
    rw [e]
    have q : decide (0 ≤ i) = false := by simpa using h0
    clear e hl
    go_enter Try.func24, Try.ntmps24
    go_wp2
    go_ret
    exact ⟨rfl, rfl⟩
  · obtain ⟨k, rfl⟩ : ∃ k : Nat, i = (k : Int) := ⟨i.toNat, by omega⟩
    have q : decide ((0 : Int) ≤ (k : Int)) = true := by simp
    rw [atI_nat]
    clear h0
    by_cases hk : k < n
    · obtain ⟨b, o, x, rfl, hx, hc⟩ := RdI.at_ h hk
      rw [at0_of hx]
      have q1 : decide ((k : Int) < (n : Int)) = true := by simp; omega
      have q2 : decide (k < n) = true := by simp; omega
      clear hx hl h
      go_enter Try.func24, Try.ntmps24
      go_wp2
      go_ret
      exact ⟨rfl, rfl⟩
    · rw [at0_beyond (by omega)]
      have q1 : decide ((k : Int) < (n : Int)) = false := by simp; omega
      have q2 : decide (k < n) = false := by simp; omega
      clear hl h
      go_enter Try.func24, Try.ntmps24
      go_wp2
      go_ret
      exact ⟨rfl, rfl⟩
theorem rat_nat (A : Option Addr) (n c : Nat) (l : List Int) (i : Nat) (w : World) (h : RdI w A n c l) :
    Calls Try.prog 24 #[.slice A n c, .int .i64 (i : Int)] w (SaysI w (at0 l i)) := by
  have := rat_any A n c l (i : Int) w h
  rwa [atI_nat] at this
theorem rlong_any (A : Option Addr) (n c : Nat) (B : Option Addr) (m d : Nat) (w : World) (N : Nat) (hN : max n m = N) :
    Calls Try.prog 23 #[.slice A n c, .slice B m d] w (SaysI w (N : Int)) := by
  by_cases hnm : m < n
  · obtain rfl : N = n := by omega
    have q1 : decide ((m : Int) < (N : Int)) = true := by simp; omega
    have q2 : decide (m < N) = true := by simp; omega
    clear hN
    go_enter Try.func23, Try.ntmps23
    go_wp2
    go_ret
    exact ⟨rfl, rfl⟩
  · obtain rfl : N = m := by omega
    have q1 : decide ((N : Int) < (n : Int)) = false := by simp; omega
    have q2 : decide (N < n) = false := by simp; omega
    clear hN
    go_enter Try.func23, Try.ntmps23
    go_wp2
    go_ret
    exact ⟨rfl, rfl⟩

theorem rbelow_any (A : Option Addr) (n c : Nat) (a : List Int) (B : Option Addr) (m d : Nat) (b : List Int) (w : World) (h : RdI w A n c a) (h' : RdI w B m d b) (t : Bool) (ht : blw a b = t) :
    Calls Try.prog 16 #[.slice A n c, .slice B m d] w (SaysB w t) := by
  have hla := RdI.size h
  have hlb := RdI.size h'
  have hn := RdV.le h
  have hm := RdV.le h'
  obtain ⟨N, hN, hN1, hN2⟩ : ∃ N : Nat, max n m = N ∧ N ≤ 9223372036854775807 ∧ Hid (max a.length b.length ≤ N) := ⟨_, rfl, by omega, hidT (by omega)⟩
  have p0 := rlong_any A n c B m d w N hN
  have HT := hidT ht
  clear ht hla hlb hN
  go_enter Try.func16, Try.ntmps16
  go_wp2
  go_loopw [5] (fun i w' => ∃ j : Nat, j ≤ N ∧ i = .int .i64 j ∧ Hid (∀ k, k < j → at0 a k ≤ at0 b k) ∧ w' = w) (fun i _ => N - (intOf i).toNat)
  case atStart => exact ⟨0, Nat.zero_le _, rfl, hidT (fun k hk => by omega), rfl⟩
  case round =>
    obtain ⟨j, hj, rfl, HJ, rfl⟩ := hrel
    go_wp2_with fail
    with_reducible refine p0.mono ?_
    rintro e w1 ⟨rfl, rfl⟩
    by_cases hjn : j < N
    · obtain ⟨x, HX⟩ : ∃ x, Hid (at0 a j = x) := ⟨_, hidT rfl⟩
      obtain ⟨y, HY⟩ : ∃ y, Hid (at0 b j = y) := ⟨_, hidT rfl⟩
      have p1 := rat_nat A n c a j _ h
      have p2 := rat_nat B m d b j _ h'
      rw [HX.out] at p1
      rw [HY.out] at p2
      go_wp2_with fail
      with_reducible refine p1.mono ?_
      rintro e w1 ⟨rfl, rfl⟩
      go_wp2_with fail
      with_reducible refine p2.mono ?_
      rintro e w1 ⟨rfl, rfl⟩
      by_cases hxy : y < x
      · obtain rfl : t = false := by rw [← HT.out]; exact blw_not (i := j) (by rw [HX.out, HY.out]; exact hxy)
        have qq : decide (y < x) = true := by simpa using hxy
        go_wp2
        go_ret
        exact ⟨rfl, rfl⟩
      · have qq : decide (y < x) = false := by simpa using hxy
        have HK : Hid (∀ k, k < j + 1 → at0 a k ≤ at0 b k) := hidT (fun k hk => by
          rcases Nat.lt_or_ge k j with h1 | h1
          · exact HJ.out k h1
          · obtain rfl : k = j := by omega
            rw [HX.out, HY.out]; omega)
        go_wp2
        exact ⟨⟨j + 1, by omega, by go_num, HK, trivial⟩, by simp [intOf]; omega⟩
    · obtain rfl : j = N := by omega
      obtain rfl : t = true := by rw [← HT.out]; exact blw_all hN2.out HJ.out
      go_wp2
      go_ret
      exact ⟨rfl, rfl⟩

theorem rsum_any (A : Option Addr) (n c : Nat) (l : List Int) (w : World) (h : RdI w A n c l) :
    Calls Try.prog 20 #[.slice A n c] w (SaysI w (sm l)) := by
  have hl := RdI.size h
  have hn := RdV.le h
  have HL := hidT hl
  clear hl
  obtain ⟨z, HZ⟩ : ∃ z, Hid (sm l = z) := ⟨_, hidT rfl⟩
  rw [HZ.out]
  go_enter Try.func20, Try.ntmps20
  go_wp2
  go_loopw [3, 4] (fun s i w' => ∃ (j : Nat) (x : Int), j ≤ n ∧ i = .int .i64 j ∧ s = .int .i64 x ∧ Hid (x = sm (l.take j)) ∧ w' = w) (fun _ i _ => n - (intOf i).toNat)
  case atStart => exact ⟨0, 0, Nat.zero_le _, rfl, rfl, hidT rfl, rfl⟩
  case round =>
    obtain ⟨j, x, hj, rfl, rfl, HX, rfl⟩ := hrel
    by_cases hjn : j < n
    · obtain ⟨b, o, y, rfl, hy, hc⟩ := RdI.at_ h hjn
      have HY := hidT hy
      clear hy
      go_wp2
      refine ⟨⟨j + 1, wrap64 (x + y), by omega, by go_num, rfl, hidT ?_, trivial⟩, by simp [intOf]; omega⟩
      rw [List.take_add_one, HY.out, Option.toList_some, sm_snoc, HX.out]
    · obtain rfl : j = n := by omega
      have e : x = z := by rw [HX.out, List.take_of_length_le (by rw [HL.out]; omega), HZ.out]
      subst e
      go_wp2
      go_ret
      exact ⟨rfl, rfl⟩

set_option maxHeartbeats 1000000 in
theorem rleast_any (A : Option Addr) (n c : Nat) (rs : List Rw) (i : Int) (w : World) (h : RdR w A n c rs) :
    Calls Try.prog 18 #[.slice A n c, .int .i64 i] w (SaysI w (lst (bs' rs) i)) := by
  have hs := h.sizeB
  have hle := h.le
  obtain ⟨z, HZ⟩ : ∃ z, Hid (lst (bs' rs) i = z) := ⟨_, hidT rfl⟩
  rw [HZ.out]
  have HS := hidT hs
  clear hs
  go_enter Try.func18, Try.ntmps18
  go_wp2
  go_loopw [5, 6] (fun s t w' => ∃ (j : Nat) (x : Int), j ≤ n ∧ t = .int .i64 j ∧ s = .int .i64 x ∧ Hid (lst ((bs' rs).take j) i = x) ∧ w' = w) (fun _ i _ => n - (intOf i).toNat)
  case atStart => exact ⟨0, 0, Nat.zero_le _, rfl, rfl, hidT rfl, rfl⟩
  case round =>
    obtain ⟨j, x, hj, rfl, rfl, HX, rfl⟩ := hrel
    by_cases hjn : j < n
    · obtain ⟨b, o, r, rfl, hr, hbr, hR, hcr⟩ := h.at_ hjn
      obtain ⟨y, HY⟩ : ∃ y, Hid (atI r.b i = y) := ⟨_, hidT rfl⟩
      have p1 := rat_any r.A r.n r.c r.b i _ hR
      rw [HY.out] at p1
      have HB := hidT hbr
      clear hr hbr
      go_wp2_with fail
      with_reducible refine p1.mono ?_
      rintro e w3 ⟨rfl, rfl⟩
      by_cases hj0 : j = 0
      · subst hj0
        have HT : Hid (lst ((bs' rs).take (0 + 1)) i = y) := hidT (by rw [← HY.out]; exact lst_first i HB.out)
        go_wp2
        exact ⟨⟨0 + 1, y, by omega, by go_num, rfl, HT, trivial⟩, by simp [intOf]; omega⟩
      · have q1 : (j == 0) = false := by simpa using hj0
        have q2 : ((j : Int) == 0) = false := by simp; omega
        have HT := hidT (lst_step i HB.out (by omega))
        rw [HX.out, HY.out] at HT
        by_cases hxy : y < x
        · have qq : decide (y < x) = true := by simpa using hxy
          rw [show les x y = y from by unfold les; rw [if_pos hxy]] at HT
          go_wp2
          exact ⟨⟨j + 1, y, by omega, by go_num, rfl, HT, trivial⟩, by simp [intOf]; omega⟩
        · have qq : decide (y < x) = false := by simpa using hxy
          rw [show les x y = x from by unfold les; rw [if_neg hxy]] at HT
          go_wp2
          exact ⟨⟨j + 1, x, by omega, by go_num, rfl, HT, trivial⟩, by simp [intOf]; omega⟩
    · obtain rfl : j = n := by omega
      obtain rfl : x = z := by rw [← HX.out, List.take_of_length_le (by rw [HS.out]; omega), HZ.out]
      go_wp2
      go_ret
      exact ⟨rfl, rfl⟩

set_option maxHeartbeats 1000000 in
theorem rmax_any (A : Option Addr) (n c : Nat) (a : List Int) (B : Option Addr) (m d : Nat) (b : List Int) (w : World) (h : RdI w A n c a) (h' : RdI w B m d b) (hn : n ≤ 100) (hm : m ≤ 100) :
    Calls Try.prog 12 #[.slice A n c, .slice B m d] w (GivesI w 3 (mx a b)) := by
  have hla := RdI.size h
  have hlb := RdI.size h'
  obtain ⟨N, hN⟩ : ∃ N : Nat, max n m = N := ⟨_, rfl⟩
  have hN1 : N ≤ 100 := by omega
  have p0 := fun w' => rlong_any A n c B m d w' N hN
  have HJ : Hid (∀ j, j < N → (mx a b)[j]? = some (big (at0 a j) (at0 b j))) := hidT fun j hj => jn_get big a b (by omega)
  have HL : Hid ((mx a b).length = N) := hidT (by rw [jn_length]; omega)
  generalize mx a b = L at HJ HL ⊢
  clear hla hlb hN
  go_enter Try.func12, Try.ntmps12
  go_wp2
  go_loopw [5, 6] (fun s t w' => ∃ j : Nat, j ≤ N ∧ t = .int .i64 j ∧ OwnV w' w.heap.size 3 s j (is (L.take j)) ∧ Below w.heap.size w w') (fun _ i _ => N - (intOf i).toNat)
  case atStart => exact ⟨0, Nat.zero_le _, rfl, World.ownsRow_nil w _ _ _, Below.refl _ _⟩
  case round =>
    obtain ⟨j, hj, rfl, hown, hbel⟩ := hrel
    go_wp2_with fail
    with_reducible refine (p0 _).mono ?_
    rintro e w1 ⟨rfl, rfl⟩
    by_cases hjn : j < N
    · obtain ⟨x, HX⟩ : ∃ x, Hid (at0 a j = x) := ⟨_, hidT rfl⟩
      obtain ⟨y, HY⟩ : ∃ y, Hid (at0 b j = y) := ⟨_, hidT rfl⟩
      have p1 := rat_nat A n c a j _ (h.below hbel)
      have p2 := rat_nat B m d b j _ (h'.below hbel)
      rw [HX.out] at p1
      rw [HY.out] at p2
      obtain ⟨z, HZ⟩ : ∃ z, Hid (big x y = z) := ⟨_, hidT rfl⟩
      have HT : Hid (L.take (j + 1) = L.take j ++ [z]) := hidT (by rw [List.take_add_one, HJ.out j hjn, HX.out, HY.out, HZ.out]; rfl)
      have hs1 := hbel.size
      go_wp2_with fail
      with_reducible refine p1.mono ?_
      rintro e w2 ⟨rfl, rfl⟩
      go_wp2_with fail
      with_reducible refine p2.mono ?_
      rintro e w2 ⟨rfl, rfl⟩
      have hlit := RdV.lit w2 3 (0, 0) #[.int .i64 z] [.int .i64 z] rfl 1 rfl (by simp only [maxLen]; omega) w2.heap.size rfl
      have hown' := OwnV.later hown ((Below.refl w2.heap.size w2).alloc (Nat.le_refl _) (.cells #[.int .i64 z] 3 (0, 0)))
      have hbel' := hbel.alloc hs1 (.cells #[.int .i64 z] 3 (0, 0))
      have hs2 := hbel'.size
      have one : ∀ u ∈ [Value.int IntKind.i64 z], u.oneCell' = true := by intro u hu; simp at hu; subst hu; rfl
      by_cases hxy : x < y
      · have qq : decide (x < y) = true := by simpa using hxy
        obtain rfl : y = z := by rw [← HZ.out]; unfold big; rw [if_pos hxy]
        go_wp2_with (refine wpList_appV rfl (.tmp 26) (.tmp 28) 22 rfl w.heap.size 3 (.int .i64 0) 8 info3 rfl (by omega) Try.underlying22 _ j (is (L.take j)) rfl hown' _ 1 1 [.int .i64 y] rfl hlit one (by omega) hs2 ?_)
        intro v' w4 hown4 hb4 _
        go_wp2
        refine ⟨⟨j + 1, by omega, by go_num, ?_, hbel'.trans hb4⟩, by simp [intOf]; omega⟩
        rw [HT.out, is_append]
        exact hown4
      · have qq : decide (x < y) = false := by simpa using hxy
        obtain rfl : x = z := by rw [← HZ.out]; unfold big; rw [if_neg hxy]
        go_wp2_with (refine wpList_appV rfl (.tmp 26) (.tmp 28) 22 rfl w.heap.size 3 (.int .i64 0) 8 info3 rfl (by omega) Try.underlying22 _ j (is (L.take j)) rfl hown' _ 1 1 [.int .i64 x] rfl hlit one (by omega) hs2 ?_)
        intro v' w4 hown4 hb4 _
        go_wp2
        refine ⟨⟨j + 1, by omega, by go_num, ?_, hbel'.trans hb4⟩, by simp [intOf]; omega⟩
        rw [HT.out, is_append]
        exact hown4
    · obtain rfl : j = N := by omega
      rw [List.take_of_length_le (by rw [HL.out]; omega)] at hown
      go_wp2
      go_ret
      exact OwnV.givesI hown hbel

set_option maxHeartbeats 1000000 in
theorem rmin_any (A : Option Addr) (n c : Nat) (a : List Int) (B : Option Addr) (m d : Nat) (b : List Int) (w : World) (h : RdI w A n c a) (h' : RdI w B m d b) (hn : n ≤ 100) (hm : m ≤ 100) :
    Calls Try.prog 14 #[.slice A n c, .slice B m d] w (GivesI w 3 (mn a b)) := by
  have hla := RdI.size h
  have hlb := RdI.size h'
  obtain ⟨N, hN⟩ : ∃ N : Nat, max n m = N := ⟨_, rfl⟩
  have hN1 : N ≤ 100 := by omega
  have p0 := fun w' => rlong_any A n c B m d w' N hN
  have HJ : Hid (∀ j, j < N → (mn a b)[j]? = some (les (at0 a j) (at0 b j))) := hidT fun j hj => jn_get les a b (by omega)
  have HL : Hid ((mn a b).length = N) := hidT (by rw [jn_length]; omega)
  generalize mn a b = L at HJ HL ⊢
  clear hla hlb hN
  go_enter Try.func14, Try.ntmps14
  go_wp2
  go_loopw [5, 6] (fun s t w' => ∃ j : Nat, j ≤ N ∧ t = .int .i64 j ∧ OwnV w' w.heap.size 3 s j (is (L.take j)) ∧ Below w.heap.size w w') (fun _ i _ => N - (intOf i).toNat)
  case atStart => exact ⟨0, Nat.zero_le _, rfl, World.ownsRow_nil w _ _ _, Below.refl _ _⟩
  case round =>
    obtain ⟨j, hj, rfl, hown, hbel⟩ := hrel
    go_wp2_with fail
    with_reducible refine (p0 _).mono ?_
    rintro e w1 ⟨rfl, rfl⟩
    by_cases hjn : j < N
    · obtain ⟨x, HX⟩ : ∃ x, Hid (at0 a j = x) := ⟨_, hidT rfl⟩
      obtain ⟨y, HY⟩ : ∃ y, Hid (at0 b j = y) := ⟨_, hidT rfl⟩
      have p1 := rat_nat A n c a j _ (h.below hbel)
      have p2 := rat_nat B m d b j _ (h'.below hbel)
      rw [HX.out] at p1
      rw [HY.out] at p2
      obtain ⟨z, HZ⟩ : ∃ z, Hid (les x y = z) := ⟨_, hidT rfl⟩
      have HT : Hid (L.take (j + 1) = L.take j ++ [z]) := hidT (by rw [List.take_add_one, HJ.out j hjn, HX.out, HY.out, HZ.out]; rfl)
      have hs1 := hbel.size
      go_wp2_with fail
      with_reducible refine p1.mono ?_
      rintro e w2 ⟨rfl, rfl⟩
      go_wp2_with fail
      with_reducible refine p2.mono ?_
      rintro e w2 ⟨rfl, rfl⟩
      have hlit := RdV.lit w2 3 (0, 0) #[.int .i64 z] [.int .i64 z] rfl 1 rfl (by simp only [maxLen]; omega) w2.heap.size rfl
      have hown' := OwnV.later hown ((Below.refl w2.heap.size w2).alloc (Nat.le_refl _) (.cells #[.int .i64 z] 3 (0, 0)))
      have hbel' := hbel.alloc hs1 (.cells #[.int .i64 z] 3 (0, 0))
      have hs2 := hbel'.size
      have one : ∀ u ∈ [Value.int IntKind.i64 z], u.oneCell' = true := by intro u hu; simp at hu; subst hu; rfl
      by_cases hxy : y < x
      · have qq : decide (y < x) = true := by simpa using hxy
        obtain rfl : y = z := by rw [← HZ.out]; unfold les; rw [if_pos hxy]
        go_wp2_with (refine wpList_appV rfl (.tmp 26) (.tmp 28) 22 rfl w.heap.size 3 (.int .i64 0) 8 info3 rfl (by omega) Try.underlying22 _ j (is (L.take j)) rfl hown' _ 1 1 [.int .i64 y] rfl hlit one (by omega) hs2 ?_)
        intro v' w4 hown4 hb4 _
        go_wp2
        refine ⟨⟨j + 1, by omega, by go_num, ?_, hbel'.trans hb4⟩, by simp [intOf]; omega⟩
        rw [HT.out, is_append]
        exact hown4
      · have qq : decide (y < x) = false := by simpa using hxy
        obtain rfl : x = z := by rw [← HZ.out]; unfold les; rw [if_neg hxy]
        go_wp2_with (refine wpList_appV rfl (.tmp 26) (.tmp 28) 22 rfl w.heap.size 3 (.int .i64 0) 8 info3 rfl (by omega) Try.underlying22 _ j (is (L.take j)) rfl hown' _ 1 1 [.int .i64 x] rfl hlit one (by omega) hs2 ?_)
        intro v' w4 hown4 hb4 _
        go_wp2
        refine ⟨⟨j + 1, by omega, by go_num, ?_, hbel'.trans hb4⟩, by simp [intOf]; omega⟩
        rw [HT.out, is_append]
        exact hown4
    · obtain rfl : j = N := by omega
      rw [List.take_of_length_le (by rw [HL.out]; omega)] at hown
      go_wp2
      go_ret
      exact OwnV.givesI hown hbel

theorem take_ne {a b : List Int} {j : Nat} {x y : Int} (ha : a[j]? = some x) (hb : b[j]? = some y) (h : x ≠ y) : decide (a = b) = false := by
  rw [decide_eq_false_iff_not]
  rintro rfl
  rw [ha] at hb
  injection hb with hb
  exact h hb
theorem take_snocI {a b : List Int} {j : Nat} {x : Int} (ha : a[j]? = some x) (hb : b[j]? = some x) (h : a.take j = b.take j) : a.take (j + 1) = b.take (j + 1) := by
  rw [List.take_add_one, List.take_add_one, h, ha, hb]

set_option maxHeartbeats 400000 in
theorem rsame_any (A : Option Addr) (n c : Nat) (a : List Int) (B : Option Addr) (m d : Nat) (b : List Int) (w : World) (ha : RdI w A n c a) (hb : RdI w B m d b) :
    Calls Try.prog 10 #[.slice A n c, .slice B m d] w fun e w' => e = .returned (.bool (decide (a = b))) ∧ ∃ k, w' = w.drewN k := by
  have hn := RdV.le ha
  have hla := RdI.size ha
  have hlb := RdI.size hb
  by_cases hnm : n = m
  · subst hnm
    have HA := hidT hla
    have HB := hidT hlb
    clear hla hlb
    go_enter Try.func10, Try.ntmps10
    go_wp2
    go_loopw [5] (fun i w' => ∃ j : Nat, j ≤ n ∧ i = .int .i64 j ∧ Hid (a.take j = b.take j) ∧ ∃ k, w' = w.drewN k) (fun i _ => n - (intOf i).toNat)
    case atStart => exact ⟨0, Nat.zero_le _, rfl, hidT rfl, 0, rfl⟩
    case round =>
      obtain ⟨j, hj, rfl, HT, kk, rfl⟩ := hrel
      by_cases hjn : j < n
      · obtain ⟨b1, o1, x, rfl, hx, hcx⟩ := RdI.at_ ha hjn
        obtain ⟨b2, o2, y, rfl, hy, hcy⟩ := RdI.at_ hb hjn
        have HX := hidT hx
        have HY := hidT hy
        clear hx hy
        by_cases hxy : x = y
        · subst hxy
          go_wp2
          go_quiet (fail)
          go_wp2
          exact ⟨⟨j + 1, by omega, by go_num, hidT (take_snocI HX.out HY.out HT.out), _, rfl⟩, by simp [intOf]; omega⟩
        · have q1 : (x != y) = true := by simpa using hxy
          have q2 : (x == y) = false := by simpa using hxy
          go_wp2
          go_quiet (fail)
          have HD := hidT (take_ne HX.out HY.out hxy)
          go_wp2
          go_ret
          rw [HD.out]
          exact ⟨rfl, _, World.drewN_drewN _ _ _⟩
      · obtain rfl : j = n := by omega
        have HD : Hid (decide (a = b) = true) := by
          have h1 := HT.out
          rw [List.take_of_length_le (by rw [HA.out]; omega), List.take_of_length_le (by rw [HB.out]; omega)] at h1
          exact hidT (by simpa using h1)
        go_wp2
        go_ret
        rw [HD.out]
        exact ⟨rfl, _, rfl⟩
  · have HD : Hid (decide (a = b) = false) := by
      refine hidT ?_
      rw [decide_eq_false_iff_not]
      rintro rfl
      omega
    have q1 : ((n : Int) != (m : Int)) = true := by simp; omega
    have q2 : ((n : Int) == (m : Int)) = false := by simp; omega
    have q3 : (n == m) = false := by simpa using hnm
    have q4 : (n != m) = true := by simpa using hnm
    clear hla hlb
    go_enter Try.func10, Try.ntmps10
    go_wp2
    go_ret
    rw [HD.out]
    exact ⟨rfl, 0, rfl⟩

theorem rsame_is (A : Option Addr) (n c : Nat) (a : List Int) (B : Option Addr) (m d : Nat) (b : List Int) (w : World) (ha : RdI w A n c a) (hb : RdI w B m d b) (t : Bool) (ht : decide (a = b) = t) :
    Calls Try.prog 10 #[.slice A n c, .slice B m d] w fun e w' => e = .returned (.bool t) ∧ Below w.heap.size w w' := by
  refine (rsame_any A n c a B m d b w ha hb).mono ?_
  rintro e w' ⟨rfl, k, rfl⟩
  rw [ht]
  exact ⟨rfl, drawn_below _ _⟩
end Go.Proofs.Ytghcpfdmdhdcgaa
