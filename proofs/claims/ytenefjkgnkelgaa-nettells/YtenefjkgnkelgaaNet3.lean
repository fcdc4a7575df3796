/- What net's 'has', Put, Drop, Dup come to. -/
import Derived.Test.YtenefjkgnkelgaaNet2
import Derived.Deep.RegionHeldLaw
import Derived.StillTailTactics
import Derived.IntWalk
set_option maxRecDepth 100000
namespace Go.Proofs.Ytenefjkgnkelgaa
open Go.RowKit
set_option linter.unusedVariables false

/-- Letters that are few and short enough for what the program makes of them. -/
def Small (ls : List Lt) : Prop := ls.length ≤ 65536 ∧ ∀ x ∈ ls, x.b.length ≤ 65536
theorem Small.take {ls : List Lt} (h : Small ls) (k : Nat) : Small (ls.take k) := ⟨by rw [List.length_take]; have := h.1; omega, fun x hx => h.2 x (List.mem_of_mem_take hx)⟩
theorem Small.drop {ls : List Lt} (h : Small ls) (k : Nat) : Small (ls.drop k) := ⟨by rw [List.length_drop]; have := h.1; omega, fun x hx => h.2 x (List.mem_of_mem_drop hx)⟩
theorem Small.cut {ls : List Lt} (h : Small ls) (k : Nat) : Small (ls.take k ++ ls.drop (k + 1)) := by
  refine ⟨by rw [List.length_append, List.length_take, List.length_drop]; have := h.1; omega, fun x hx => ?_⟩
  rcases List.mem_append.1 hx with hx | hx
  · exact h.2 x (List.mem_of_mem_take hx)
  · exact h.2 x (List.mem_of_mem_drop hx)
theorem Small.snoc {ls : List Lt} {x : Lt} (h : Small ls) (h1 : ls.length < 65536) (hx : x.b.length ≤ 65536) : Small (ls ++ [x]) := by
  refine ⟨by rw [List.length_append]; simp; omega, fun y hy => ?_⟩
  rcases List.mem_append.1 hy with hy | hy
  · exact h.2 y hy
  · rw [List.mem_singleton.1 hy]; exact hx
theorem Small.one {x : Lt} (hx : x.b.length ≤ 65536) : Small [x] := ⟨by simp, fun y hy => by rw [List.mem_singleton.1 hy]; exact hx⟩
theorem small_of_few {ls : List Lt} {m : Nat} (h : few ls m = true) (hm : m ≤ 65536) : Small ls := by
  rw [few_iff] at h
  exact ⟨by omega, fun x hx => by have := h.2 x hx; omega⟩

theorem has_is (A : Option Addr) (n c : Nat) (i : Int) (w : World) (hle : n ≤ 9223372036854775807) :
    Calls Try.prog 26 #[.slice A n c, .int .i64 i] w fun e w' => e = .returned (.bool (decide (0 ≤ i ∧ i < n))) ∧ w = w' := by
  by_cases h0 : 0 ≤ i
  · by_cases h1 : i < n
    · have q : decide (0 ≤ i ∧ i < (n : Int)) = true := by simp; omega
      rw [q]
      clear q
      go_enter Try.func26, Try.ntmps26
      go_wp2
      go_ret
      exact ⟨rfl, rfl⟩
    · have q : decide (0 ≤ i ∧ i < (n : Int)) = false := by simp; omega
      have q2 : decide (i < (n : Int)) = false := by simp; omega
      rw [q]
      clear q
      go_enter Try.func26, Try.ntmps26
      go_wp2
      go_ret
      exact ⟨rfl, rfl⟩
  · have q : decide (0 ≤ i ∧ i < (n : Int)) = false := by simp; omega
    have q2 : decide (0 ≤ i) = false := by simp; omega
    rw [q]
    clear q
    go_enter Try.func26, Try.ntmps26
    go_wp2
    go_ret
    exact ⟨rfl, rfl⟩

theorem fresh1 (A : Option Addr) (n c : Nat) (ls : List Lt) (w : World) (G : Option Addr) (hV : RdV w G 1 1 [.slice A n c]) (h : RdL w A n c ls) (hs : Small ls) :
    Calls Try.prog 25 #[.slice G 1 1] w (Fresh w 29 ls) := by
  obtain ⟨ts, h1, h2⟩ := h
  refine fresh_any G 1 1 [⟨A, n, c, ts⟩] ls w hV (fun r hr => ?_) ?_ hs.1 hs.2
  · rw [List.mem_singleton.1 hr]; exact h1
  · simpa [tsOf] using h2
theorem fresh2 (A : Option Addr) (n c : Nat) (ls : List Lt) (B : Option Addr) (m d : Nat) (ms : List Lt) (w : World) (G : Option Addr) (hV : RdV w G 2 2 [.slice A n c, .slice B m d]) (h : RdL w A n c ls) (h' : RdL w B m d ms) (hs : Small (ls ++ ms)) :
    Calls Try.prog 25 #[.slice G 2 2] w (Fresh w 29 (ls ++ ms)) := by
  obtain ⟨ts, h1, h2⟩ := h
  obtain ⟨us, h3, h4⟩ := h'
  refine fresh_any G 2 2 [⟨A, n, c, ts⟩, ⟨B, m, d, us⟩] (ls ++ ms) w hV (fun r hr => ?_) ?_ hs.1 hs.2
  · simp only [List.mem_cons, List.not_mem_nil, or_false] at hr
    rcases hr with rfl | rfl
    · exact h1
    · exact h3
  · simpa [tsOf] using h2.app h4

/-- A row, and a code. -/
def FreshC (w : World) (T : TypeId) (ls : List Lt) (code : Int) (e : Ending) (w' : World) : Prop :=
  ∃ g k, ls.length = k ∧ e = .returned (.tuple #[.slice (some ⟨g, 0, none⟩) k k, .int .i64 code]) ∧ IsFresh w.heap.size T ls g w' ∧ Below w.heap.size w w'
theorem IsFresh.mono {a b g : Nat} {T : TypeId} {ls : List Lt} {w : World} (h : IsFresh b T ls g w) (hab : a ≤ b) : IsFresh a T ls g w := ⟨Nat.le_trans hab h.1, h.2⟩

/-- A letter that is just laid. -/
theorem one_lit (w : World) (q : Int) (B : Option Addr) (m d : Nat) (b : List UInt8) (s : Bool) (hB : Rd w B m d b) (t : TypeId) : RdL (w.alloc (.cells #[.int .i64 q, .slice B m d, .bool s] t)) (some ⟨w.heap.size, 0, none⟩) 1 1 [⟨q, b, s⟩] :=
  RdL.lit w t _ _ [⟨q, B, m, d, s⟩] _ rfl 1 rfl (by simp only [maxLen]; omega) (AreL.one ⟨rfl, rfl, hB⟩) _ rfl
theorem rows1 (w : World) (v : Value) (t : TypeId) : RdV (w.alloc (.cells #[v] t)) (some ⟨w.heap.size, 0, none⟩) 1 1 [v] := RdV.lit w t _ _ _ rfl 1 rfl (by simp only [maxLen]; omega) _ rfl
theorem rows2 (w : World) (v u : Value) (t : TypeId) : RdV (w.alloc (.cells #[v, u] t)) (some ⟨w.heap.size, 0, none⟩) 2 2 [v, u] := RdV.lit w t _ _ _ rfl 2 rfl (by simp only [maxLen]; omega) _ rfl
theorem RdL.alloc {w : World} {A : Option Addr} {n c : Nat} {ls : List Lt} (h : RdL w A n c ls) (o : Obj) : RdL (w.alloc o) A n c ls := h.below ((Below.refl _ _).alloc (Nat.le_refl _) o)

set_option maxHeartbeats 1000000 in
theorem put_any (A : Option Addr) (n c : Nat) (ls : List Lt) (q : Int) (B : Option Addr) (m d : Nat) (b : List UInt8) (w : World) (h : RdL w A n c ls) (hB : Rd w B m d b) (hs : Small ls) (h1 : ls.length < 65536) (hb : b.length ≤ 65536) :
    Calls Try.prog 21 #[.slice A n c, .int .i64 q, .slice B m d] w (Fresh w 29 (ls ++ [⟨q, b, false⟩])) := by
  have hsz := size_alloc w (.cells #[.int .i64 q, .slice B m d, .bool false] 29)
  have hf := fresh2 A n c ls (some ⟨w.heap.size, 0, none⟩) 1 1 [⟨q, b, false⟩] ((w.alloc (.cells #[.int .i64 q, .slice B m d, .bool false] 29)).alloc (.cells #[.slice A n c, .slice (some ⟨w.heap.size, 0, none⟩) 1 1] 22)) _ (rows2 _ _ _ _) ((h.alloc _).alloc _) ((one_lit w q B m d b false hB _).alloc _) (hs.snoc h1 hb)
  rw [hsz] at hf
  clear hsz
  go_enter Try.func21, Try.ntmps21
  go_wp2_with fail
  with_reducible refine hf.mono ?_
  rintro e w1 ⟨g, N, hN, rfl, hg, hb1⟩
  have HN := hidT hN
  clear hN
  have hb0 : Below w.heap.size w w1 := bthen (((Below.refl _ w).alloc (Nat.le_refl _) _).alloc (by simp) _) hb1
  clear hf
  go_wp2
  go_ret
  exact ⟨g, N, HN.out, rfl, hg.mono (by simp only [size_alloc]; omega), hb0⟩

theorem cut_rd {w : World} {b o n c k : Nat} {ls : List Lt} (h : RdL w (some ⟨b, o, none⟩) n c ls) (hk : k ≤ n) : RdL w (some (if c = k then ⟨b, o, none⟩ else ⟨b, o + k * 3, none⟩)) (n - k) (c - k) (ls.drop k) := by
  by_cases hc : c = k
  · have hcap := h.cap
    have hs := h.size
    rw [if_pos hc, show n - k = 0 from by omega, show c - k = 0 from by omega, List.drop_of_length_le (by omega)]
    exact RdL.empty _ _
  · rw [if_neg hc]
    exact h.drop hk

set_option maxHeartbeats 1000000 in
theorem drop_any (A : Option Addr) (n c : Nat) (ls : List Lt) (i : Int) (w : World) (h : RdL w A n c ls) (hs : Small ls) :
    Calls Try.prog 13 #[.slice A n c, .int .i64 i] w (FreshC w 29 (if 0 ≤ i ∧ i < n then ls.take i.toNat ++ ls.drop (i.toNat + 1) else ls) (if 0 ≤ i ∧ i < n then 0 else 7)) := by
  have hle := h.le
  have hs1 := h.size
  by_cases hi : 0 ≤ i ∧ i < n
  · rw [if_pos hi, if_pos hi]
    have q : decide (0 ≤ i ∧ i < (n : Int)) = true := by simpa using hi
    have hh := fun w => has_is A n c i w hle
    rw [q] at hh
    clear q
    obtain ⟨hi0, hi1⟩ := hi
    obtain ⟨k, rfl⟩ := Int.eq_ofNat_of_zero_le hi0
    rw [Int.toNat_natCast]
    obtain ⟨b, o, rfl⟩ := h.addr (by omega)
    have hcap := h.cap
    have hcle := h.cle
    have hc0 : ¬ c = 0 := by omega
    have hk1 : (0 : Int) ≤ (k : Int) + 1 := by omega
    have hk2 : (k : Int) + 1 ≤ (n : Int) := by omega
    have hk3 : (k : Int) ≤ (c : Int) := by omega
    have hwr : IntKind.i64.wrap ((k : Int) + 1) = (k : Int) + 1 := IntWalk.i64_in _ (by omega)
    have hwn : ((k : Int) + 1).toNat = k + 1 := by omega
    have hT := h.take (k := k) (by omega)
    have hD := cut_rd h (k := k + 1) (by omega)
    obtain ⟨B, hB⟩ : ∃ B, (if c = k + 1 then (⟨b, o, none⟩ : Addr) else ⟨b, o + (k + 1) * 3, none⟩) = B := ⟨_, rfl⟩
    rw [hB] at hD
    have hf := fun (wx : World) (hx : Below w.heap.size w wx) => fresh2 (some ⟨b, o, none⟩) k c (ls.take k) (some B) (n - (k + 1)) (c - (k + 1)) (ls.drop (k + 1)) (wx.alloc (.cells #[.slice (some ⟨b, o, none⟩) k c, .slice (some B) (n - (k + 1)) (c - (k + 1))] 22)) _ (rows2 _ _ _ _) ((hT.below hx).alloc _) ((hD.below hx).alloc _) (hs.cut k)
    have HF := hidT hf
    clear hf hT hD
    go_enter Try.func13, Try.ntmps13
    go_wp2_with fail
    with_reducible refine (hh _).mono ?_
    rintro e w1 ⟨rfl, rfl⟩
    clear hh
    by_cases hck : c = k + 1
    · subst hck
      obtain rfl : n = k + 1 := by omega
      rw [if_pos rfl] at hB
      subst hB
      have hk4 : (k : Int) ≤ (k : Int) + 1 := by omega
      go_wp2_with fail
      go_still_tail 7, (by kernel_rfl)
      change wpList _ _ _ _ _ w.drew
      have hbd : Below w.heap.size w w.drew := (Below.refl _ _).drew
      have hf := HF.out w.drew hbd
      rw [Nat.sub_self] at hf
      obtain ⟨w1, hw1⟩ : ∃ w1, w1 = w.drew := ⟨_, rfl⟩
      rw [← hw1] at hbd hf ⊢
      clear hw1 HF
      go_wp2_with fail
      with_reducible refine hf.mono ?_
      rintro e w2 ⟨g, N, hN, rfl, hg, hb1⟩
      have HN := hidT hN
      clear hN hf
      have hb0 : Below w.heap.size w w2 := bthen (hbd.alloc hbd.size _) hb1
      go_wp2
      go_ret2
      exact ⟨g, N, HN.out, rfl, hg.mono (by rw [size_alloc]; have := hbd.size; omega), hb0⟩
    · rw [if_neg hck] at hB
      subst hB
      have hck' : ¬ k + 1 = c := fun e => hck e.symm
      go_wp2_with fail
      go_still_tail 7, (by kernel_rfl)
      change wpList _ _ _ _ _ w.drew
      have hbd : Below w.heap.size w w.drew := (Below.refl _ _).drew
      have hf := HF.out w.drew hbd
      obtain ⟨w1, hw1⟩ : ∃ w1, w1 = w.drew := ⟨_, rfl⟩
      rw [← hw1] at hbd hf ⊢
      clear hw1 HF
      go_wp2_with fail
      with_reducible refine hf.mono ?_
      rintro e w2 ⟨g, N, hN, rfl, hg, hb1⟩
      have HN := hidT hN
      clear hN hf
      have hb0 : Below w.heap.size w w2 := bthen (hbd.alloc hbd.size _) hb1
      go_wp2
      go_ret2
      exact ⟨g, N, HN.out, rfl, hg.mono (by rw [size_alloc]; have := hbd.size; omega), hb0⟩
  · rw [if_neg hi, if_neg hi]
    have q : decide (0 ≤ i ∧ i < (n : Int)) = false := by simpa using hi
    have hh := fun w => has_is A n c i w hle
    rw [q] at hh
    clear q hi
    have hf := fresh1 A n c ls (w.alloc (.cells #[.slice A n c] 22)) _ (rows1 _ _ _) (h.alloc _) hs
    go_enter Try.func13, Try.ntmps13
    go_wp2_with fail
    with_reducible refine (hh _).mono ?_
    rintro e w1 ⟨rfl, rfl⟩
    go_wp2_with fail
    with_reducible refine hf.mono ?_
    rintro e w1 ⟨g, N, hN, rfl, hg, hb1⟩
    have HN := hidT hN
    clear hN
    have hb0 : Below w.heap.size w w1 := bthen ((Below.refl _ w).alloc (Nat.le_refl _) _) hb1
    clear hf hh
    go_wp2
    go_ret2
    exact ⟨g, N, HN.out, rfl, hg.mono (by simp only [size_alloc]; omega), hb0⟩
end Go.Proofs.Ytenefjkgnkelgaa
