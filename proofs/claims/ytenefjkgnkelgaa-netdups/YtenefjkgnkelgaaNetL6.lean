/- The law NetDups, walked. -/
import Derived.Test.YtenefjkgnkelgaaNetLaw
set_option maxRecDepth 100000
namespace Go.Proofs.Ytenefjkgnkelgaa
open Go.RowKit
set_option linter.unusedVariables false

theorem dups_next {ls : List Lt} (j : Nat) (x : Lt) : (ls ++ List.replicate j x) ++ [x] = ls ++ List.replicate (j + 1) x := by
  rw [List.append_assoc, List.replicate_succ']
theorem dups_drop {ls : List Lt} {n : Nat} (hn : ls.length = n) (j : Nat) (x : Lt) : (ls ++ List.replicate (j + 1) x).take n ++ (ls ++ List.replicate (j + 1) x).drop (n + 1) = ls ++ List.replicate j x := by
  subst hn
  rw [List.take_left' rfl, List.drop_append, List.drop_of_length_le (by omega), List.nil_append]
  simp
theorem dups_last {ls : List Lt} (j : Nat) (x : Lt) : (ls ++ List.replicate (j + 1) x).drop (ls.length + j) = [x] := by
  rw [← List.drop_drop, List.drop_left, List.drop_replicate]
  simp
theorem dups_small {ls : List Lt} (h : Small ls) (hl : ls.length ≤ 60) {x : Lt} (hx : x ∈ ls) {j : Nat} (hj : j ≤ 9) : Small (ls ++ List.replicate j x) := by
  refine ⟨by rw [List.length_append, List.length_replicate]; omega, fun y hy => ?_⟩
  rcases List.mem_append.1 hy with hy | hy
  · exact h.2 y hy
  · rw [(List.mem_replicate.1 hy).2]; exact h.2 x hx

set_option maxRecDepth 100000 in
set_option maxHeartbeats 4000000 in
theorem dups_in (b o n c : Nat) (ls : List Lt) (i nn : Int) (w : World) (h : RdL w (some ⟨b, o, none⟩) n c ls) (hf : few ls 60 = true) (hn1 : 1 ≤ n) (hi0 : 0 ≤ i) (hi1 : i < 256) (hm0 : 0 ≤ nn) (hm1 : nn < 256) :
    Calls Try.prog 8 #[.slice (some ⟨b, o, none⟩) n c, .int .u8 i, .int .u8 nn] w (Yes w) := by
  have hs := small_of_few hf (by omega)
  have hn := h.size
  have hn60 : ls.length ≤ 60 := ((few_iff _ _).1 hf).1
  have hle := h.le
  have hcap := h.cap
  have hcle := h.cle
  obtain ⟨k, hk⟩ : ∃ k : Nat, i % (n : Int) = (k : Int) := ⟨(i % (n : Int)).toNat, by have := Int.emod_nonneg i (b := n) (by omega); omega⟩
  have hkn : k < n := by have := Int.emod_lt_of_pos i (b := n) (by omega); omega
  obtain ⟨m, hm⟩ : ∃ m : Nat, nn % 9 = (m : Int) := ⟨(nn % 9).toNat, by omega⟩
  have hm9 : m < 9 := by omega
  have hn0 : ¬ (n : Int) = 0 := by omega
  have hnl : decide ((n : Int) < 1) = false := by simp; omega
  obtain ⟨x, hx⟩ : ∃ x, ls[k]? = some x := ⟨_, List.getElem?_eq_getElem (by omega)⟩
  have HX := hidT hx
  have HXM := hidT (List.mem_of_getElem? hx)
  have HN := hidT hn
  clear hx hn
  go_enter Try.func8, Try.ntmps8
  go_wp2_with fail
  with_reducible refine (nshown_any _).mono ?_
  rintro e w1 ⟨rfl, hb1⟩
  have h1 := h.below hb1
  go_wp2_with fail
  with_reducible refine (few60 _ _ _ ls _ h1 true hf).mono ?_
  rintro e w2 ⟨rfl, rfl⟩
  go_wp2
  rw [hk, hm]
  clear hk hm hi0 hi1 hm0 hm1
  have hn6 : n ≤ 60 := by have := HN.out; omega
  have k0 : (0 : Int) ≤ (k : Int) := by omega
  have k1 : (k : Int) ≤ (k : Int) + 1 := by omega
  have k2 : (k : Int) + 1 ≤ (c : Int) := by omega
  have k3 : ¬ c = k := by omega
  have k4 : k + 1 - k = 1 := by omega
  have k5 : ((k : Int) + 1).toNat = k + 1 := by omega
  have k6 : IntKind.i64.wrap ((k : Int) + 1) = (k : Int) + 1 := IntWalk.i64_in _ (by omega)
  go_loopw [10, 11] (fun v i wr => ∃ (j p : Nat) (b' o' c' : Nat), j ≤ m ∧ i = .int .i64 j ∧ Hid (n + j = p) ∧ v = .slice (some ⟨b', o', none⟩) p c' ∧ RdL wr (some ⟨b', o', none⟩) p c' (ls ++ List.replicate j x) ∧ Below w.heap.size w wr) (fun _ i _ => m - (intOf i).toNat)
  case atStart => exact ⟨0, n, b, o, c, Nat.zero_le _, rfl, rfl, rfl, by rw [List.replicate_zero, List.append_nil]; exact h1, hb1⟩
  case round =>
    obtain ⟨j, p, b', o', c', hj, rfl, HP, rfl, hr, hbel⟩ := hrel
    have hp70 : p ≤ 70 := by have := HP.out; omega
    by_cases hjm : j < m
    · have hl : (ls ++ List.replicate j x).length < 65536 := by rw [List.length_append, List.length_replicate]; omega
      have hd := dup_in b' o' p c' _ k x wr hr (dups_small hs hn60 HXM.out (by omega)) hl (by have := HP.out; omega) (by rw [List.getElem?_append_left (by have := HN.out; omega)]; exact HX.out)
      rw [dups_next] at hd
      clear hl
      go_wp2_with fail
      with_reducible refine hd.mono ?_
      rintro e w3 ⟨g, N, hN, rfl, hf3, hb3⟩
      have hN1 : N = p + 1 := by rw [List.length_append, List.length_replicate] at hN; have := HN.out; have := HP.out; omega
      have hr3 := hf3.rd hN (by omega)
      have hb03 := bthen hbel hb3
      have L1 := hr3.drop (k := p) (by omega)
      have hNp : N - p = 1 := by omega
      rw [show p = ls.length + j from by have := HN.out; have := HP.out; omega, dups_last, show ls.length + j = p from by have := HN.out; have := HP.out; omega, Nat.zero_add, hNp] at L1
      have L2 := ((h.below hb03).drop (k := k) (by omega)).take (k := 1) (by omega)
      rw [drop_take1 HX.out] at L2
      have HS : Hid (∀ w', Below w3.heap.size w3 w' → _) := fun w' hb => rsame_yes _ _ _ [x] _ _ _ w' (L1.below hb) (L2.below hb)
      have HR3 := hidT hr3
      have HN1 := hidT hN1
      have a1 : (0 : Int) ≤ (p : Int) := by omega
      have a2 : (p : Int) ≤ (N : Int) := by omega
      have a3 : ¬ N = p := by omega
      have a4 : IntKind.i64.wrap ((p : Int) + 1) = (p : Int) + 1 := IntWalk.i64_in _ (by omega)
      have a5 : ((N : Int) != (p : Int) + 1) = false := by simp; omega
      have a6 : ((N : Int) == (p : Int) + 1) = true := by simp; omega
      clear hd hN hf3 L1 L2 hr3 hN1 hr
      go_wp2
      go_region_held (fun w' => Below w3.heap.size w3 w') (first | exact (Below.refl _ _).drew | exact undrew hb4) (first | (go_at_call 19; ((with_reducible refine (HS.out _ (Below.refl _ _).drew).mono ?_); rintro e4 w4 ⟨rfl, hb4⟩)))
      all_goals go_wp2
      refine ⟨⟨j + 1, N, g, 0, N, by omega, by go_num, ?_, rfl, HR3.out.below (undrew hb4), bthen hb03 (undrew hb4)⟩, by simp [intOf]; omega⟩
      unfold Hid
      have := HP.out
      have := HN1.out
      omega
    · obtain rfl : m = j := by omega
      go_wp2
      go_loopw [10, 14] (fun v i wx => ∃ (j p : Nat) (b' o' c' : Nat), j ≤ m ∧ i = .int .i64 j ∧ Hid (n + (m - j) = p) ∧ v = .slice (some ⟨b', o', none⟩) p c' ∧ RdL wx (some ⟨b', o', none⟩) p c' (ls ++ List.replicate (m - j) x) ∧ Below w.heap.size w wx) (fun _ i _ => m - (intOf i).toNat)
      case atStart => exact ⟨0, p, b', o', c', Nat.zero_le _, rfl, HP, rfl, hr, hbel⟩
      case round =>
        clear hr hbel
        obtain ⟨j, p, b', o', c', hj, rfl, HP, rfl, hr, hbel⟩ := hrel
        by_cases hjm : j < m
        · have em : m - j = (m - (j + 1)) + 1 := by omega
          rw [em] at hr
          have hd := drop_in b' o' p c' _ n wr hr (dups_small hs hn60 HXM.out (by omega)) (by have := HP.out; omega)
          rw [dups_drop HN.out] at hd
          clear hr em
          go_wp2_with fail
          with_reducible refine hd.mono ?_
          rintro e w3 ⟨g, N, hN, rfl, hf3, hb3⟩
          have HR3 := hidT (hf3.rd hN (by rw [List.length_append, List.length_replicate] at hN; have := HN.out; omega))
          have HN1 : Hid (n + (m - (j + 1)) = N) := by rw [List.length_append, List.length_replicate] at hN; have := HN.out; unfold Hid; omega
          have hb03 := bthen hbel hb3
          clear hd hN hf3
          go_wp2
          exact ⟨⟨j + 1, N, g, 0, N, by omega, by go_num, HN1, rfl, HR3.out, hb03⟩, by simp [intOf]; omega⟩
        · obtain rfl : m = j := by omega
          rw [Nat.sub_self, List.replicate_zero, List.append_nil] at hr
          have hS := rsame_yes _ _ _ ls _ _ _ wr hr (h.below hbel)
          clear hr
          go_wp2_with fail
          with_reducible refine hS.mono ?_
          rintro e w4 ⟨rfl, hb4⟩
          clear hS
          go_wp2
          go_ret
          exact ⟨rfl, bthen hbel hb4⟩

set_option maxRecDepth 100000 in
set_option maxHeartbeats 1000000 in
theorem dups_any (A : Option Addr) (n c : Nat) (ls : List Lt) (i nn : Int) (w : World) (h : RdL w A n c ls) (hi0 : 0 ≤ i) (hi1 : i < 256) (hm0 : 0 ≤ nn) (hm1 : nn < 256) :
    Calls Try.prog 8 #[.slice A n c, .int .u8 i, .int .u8 nn] w (Yes w) := by
  by_cases hf : few ls 60 = true
  · by_cases hn1 : 1 ≤ n
    · obtain ⟨b, o, rfl⟩ := h.addr (by omega)
      exact dups_in b o n c ls i nn w h hf hn1 hi0 hi1 hm0 hm1
    · have hnl : decide ((n : Int) < 1) = true := by simp; omega
      have hle := h.le
      go_enter Try.func8, Try.ntmps8
      go_wp2_with fail
      with_reducible refine (nshown_any _).mono ?_
      rintro e w1 ⟨rfl, hb1⟩
      have h1 := h.below hb1
      go_wp2_with fail
      with_reducible refine (few60 _ _ _ ls _ h1 true hf).mono ?_
      rintro e w2 ⟨rfl, rfl⟩
      go_wp2
      go_ret
      exact ⟨rfl, hb1⟩
  · have hf' : few ls 60 = false := by simpa using hf
    go_enter Try.func8, Try.ntmps8
    go_wp2_with fail
    with_reducible refine (nshown_any _).mono ?_
    rintro e w1 ⟨rfl, hb1⟩
    have h1 := h.below hb1
    go_wp2_with fail
    with_reducible refine (few60 _ _ _ ls _ h1 false hf').mono ?_
    rintro e w2 ⟨rfl, rfl⟩
    go_wp2
    go_ret
    exact ⟨rfl, hb1⟩
end Go.Proofs.Ytenefjkgnkelgaa
