/- Rows of rows of counts in memory; what vec's Least, and the laws' few, come to. -/
import Derived.Test.YtghcpfdmdhdcgaaVec2
set_option maxRecDepth 100000
namespace Go.Proofs.Ytghcpfdmdhdcgaa
open Go.RowKit
set_option linter.unusedVariables false

/-- A row of counts in memory. -/
structure Rw where
  A : Option Addr
  n : Nat
  c : Nat
  b : List Int
def Rw.val (r : Rw) : Value := .slice r.A r.n r.c
/-- Rows of counts. -/
def RdR (w : World) (A : Option Addr) (n c : Nat) (rs : List Rw) : Prop := RdV w A n c (rs.map Rw.val) ∧ ∀ r ∈ rs, RdI w r.A r.n r.c r.b
/-- The rows themselves. -/
def bs' (rs : List Rw) : List (List Int) := rs.map Rw.b
theorem RdR.size {w : World} {A : Option Addr} {n c : Nat} {rs : List Rw} (h : RdR w A n c rs) : rs.length = n := by have := h.1.1; simpa using this
theorem RdR.sizeB {w : World} {A : Option Addr} {n c : Nat} {rs : List Rw} (h : RdR w A n c rs) : (bs' rs).length = n := by have := h.1.1; simpa [bs'] using this
theorem RdR.le {w : World} {A : Option Addr} {n c : Nat} {rs : List Rw} (h : RdR w A n c rs) : n ≤ 9223372036854775807 := h.1.le
theorem RdR.below {w w' : World} {A : Option Addr} {n c : Nat} {rs : List Rw} (h : RdR w A n c rs) (hb : Below w.heap.size w w') : RdR w' A n c rs := ⟨h.1.below hb, fun r hr => (h.2 r hr).below hb⟩
theorem RdR.at_ {w : World} {A : Option Addr} {n c : Nat} {rs : List Rw} (h : RdR w A n c rs) {k : Nat} (hk : k < n) : ∃ b o r, A = some ⟨b, o, none⟩ ∧ rs[k]? = some r ∧ (bs' rs)[k]? = some r.b ∧ RdI w r.A r.n r.c r.b ∧ w.cell? ⟨b, o + k, none⟩ = some (.slice r.A r.n r.c) := by
  obtain ⟨b, o, u, hA, hu, hc⟩ := h.1.at_ hk
  rw [List.getElem?_map, Option.map_eq_some_iff] at hu
  obtain ⟨r, hr, rfl⟩ := hu
  exact ⟨b, o, r, hA, hr, by simp [bs', hr], h.2 r (List.mem_of_getElem? hr), hc⟩
theorem RdR.take {w : World} {A : Option Addr} {n c : Nat} {rs : List Rw} (h : RdR w A n c rs) {k : Nat} (hk : k ≤ n) : RdR w A k c (rs.take k) := by
  refine ⟨?_, fun r hr => h.2 r (List.mem_of_mem_take hr)⟩
  rw [List.map_take]
  exact h.1.take hk
theorem RdR.drop {w : World} {b o n c : Nat} {rs : List Rw} (h : RdR w (some ⟨b, o, none⟩) n c rs) {k : Nat} (hk : k ≤ n) : RdR w (some ⟨b, o + k, none⟩) (n - k) (c - k) (rs.drop k) := by
  refine ⟨?_, fun r hr => h.2 r (List.mem_of_mem_drop hr)⟩
  rw [List.map_drop]
  exact h.1.drop hk
theorem bs_take (rs : List Rw) (k : Nat) : bs' (rs.take k) = (bs' rs).take k := by simp [bs', List.map_take]
theorem bs_drop (rs : List Rw) (k : Nat) : bs' (rs.drop k) = (bs' rs).drop k := by simp [bs', List.map_drop]
theorem take_ne_nil {α : Type} {l : List α} {k : Nat} (h1 : 0 < k) (h2 : 0 < l.length) : l.take k ≠ [] := by
  intro h
  have := congrArg List.length h
  rw [List.length_take, List.length_nil] at this
  omega
theorem lst_step {ls : List (List Int)} {j : Nat} {r : List Int} (i : Int) (h : ls[j]? = some r) (h0 : 0 < j) : lst (ls.take (j + 1)) i = les (lst (ls.take j) i) (atI r i) := by
  have hlt : j < ls.length := by
    rcases Nat.lt_or_ge j ls.length with hh | hh
    · exact hh
    · rw [List.getElem?_eq_none hh] at h; cases h
  rw [List.take_add_one, h, Option.toList_some]
  exact lst_snoc _ _ _ (take_ne_nil h0 (by omega))
theorem lst_first {ls : List (List Int)} {r : List Int} (i : Int) (h : ls[0]? = some r) : lst (ls.take 1) i = atI r i := by
  match ls, h with
  | q :: qs, h =>
    simp only [List.getElem?_cons_zero, Option.some.injEq] at h
    subst h
    rfl

set_option maxHeartbeats 1000000 in
theorem least_any (A : Option Addr) (n c : Nat) (rs : List Rw) (i : Int) (w : World) (h : RdR w A n c rs) :
    Calls Try.prog 17 #[.slice A n c, .int .i64 i] w (SaysI w (lst (bs' rs) i)) := by
  have hs := h.sizeB
  have hle := h.le
  obtain ⟨z, HZ⟩ : ∃ z, Hid (lst (bs' rs) i = z) := ⟨_, hidT rfl⟩
  rw [HZ.out]
  have HS := hidT hs
  clear hs
  by_cases h0 : n = 0
  · subst h0
    obtain rfl : (0 : Int) = z := by rw [← HZ.out, List.eq_nil_of_length_eq_zero HS.out]; rfl
    go_enter Try.func17, Try.ntmps17
    go_wp2
    go_ret
    exact ⟨rfl, rfl⟩
  · have h1 : 0 < n := by omega
    obtain ⟨b, o, r0, rfl, hr0, hb0, hR0, hc0⟩ := h.at_ h1
    have hcap := h.1.2.1
    have hmax := h.1.2.2.1
    have q1 : (n == 0) = false := by simpa using h0
    have q2 : ((n : Int) == 0) = false := by simp; omega
    obtain ⟨x0, HX0⟩ : ∃ x, Hid (atI r0.b i = x) := ⟨_, hidT rfl⟩
    have p0 := at_any r0.A r0.n r0.c r0.b i w hR0
    rw [HX0.out] at p0
    have HF := hidT (lst_first i hb0)
    clear hb0 hr0
    rw [Nat.add_zero] at hc0
    by_cases hc1 : c = 1
    · subst hc1
      obtain rfl : n = 1 := by omega
      obtain rfl : x0 = z := by rw [← HX0.out, ← HF.out, List.take_of_length_le (by rw [HS.out]; omega), HZ.out]
      go_enter Try.func17, Try.ntmps17
      go_wp2_with fail
      with_reducible refine p0.mono ?_
      rintro e w2 ⟨rfl, rfl⟩
      go_wp2
      go_loopw [5, 19] (fun s i w' => i = .int .i64 0 ∧ s = .int .i64 x0 ∧ w' = w2) (fun _ _ _ => 0)
      case atStart => exact ⟨rfl, rfl, rfl⟩
      case round =>
        obtain ⟨rfl, rfl, rfl⟩ := hrel
        go_wp2
        go_ret
        exact ⟨rfl, rfl⟩
    · go_enter Try.func17, Try.ntmps17
      go_wp2_with fail
      with_reducible refine p0.mono ?_
      rintro e w2 ⟨rfl, rfl⟩
      go_wp2
      go_loopw [5, 19] (fun s t w' => ∃ (j : Nat) (x : Int), j ≤ n - 1 ∧ t = .int .i64 j ∧ s = .int .i64 x ∧ Hid (lst ((bs' rs).take (j + 1)) i = x) ∧ w' = w2) (fun _ i _ => n - 1 - (intOf i).toNat)
      case atStart => exact ⟨0, x0, Nat.zero_le _, rfl, rfl, hidT (by rw [HF.out, HX0.out]), rfl⟩
      case round =>
        obtain ⟨j, x, hj, rfl, rfl, HX, rfl⟩ := hrel
        by_cases hjn : j < n - 1
        · obtain ⟨b', o', r, hA, hr, hbr, hR, hcr⟩ := h.at_ (k := j + 1) (by omega)
          injection hA with hA
          injection hA with e1 e2
          subst e1 e2
          rw [show o + (j + 1) = o + 1 + j from by omega] at hcr
          obtain ⟨y, HY⟩ : ∃ y, Hid (atI r.b i = y) := ⟨_, hidT rfl⟩
          have p1 := at_any r.A r.n r.c r.b i _ hR
          rw [HY.out] at p1
          have HT := hidT (lst_step i hbr (by omega))
          rw [HX.out, HY.out] at HT
          obtain ⟨v, HV⟩ : ∃ v, Hid (les x y = v) := ⟨_, hidT rfl⟩
          rw [HV.out] at HT
          have q : (if y < x then y else x) = v := HV.out
          clear hr hbr
          go_wp2_with fail
          with_reducible refine p1.mono ?_
          rintro e w3 ⟨rfl, rfl⟩
          go_wp2
          exact ⟨⟨j + 1, v, by omega, by go_num, rfl, HT, trivial⟩, by simp [intOf]; omega⟩
        · obtain rfl : x = z := by rw [← HX.out, List.take_of_length_le (by rw [HS.out]; omega), HZ.out]
          go_wp2
          go_ret
          exact ⟨rfl, rfl⟩
end Go.Proofs.Ytghcpfdmdhdcgaa
