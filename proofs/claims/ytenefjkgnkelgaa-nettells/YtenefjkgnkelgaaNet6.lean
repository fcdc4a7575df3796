/- What net's All and Same come to. -/
import Derived.Test.YtenefjkgnkelgaaNet5
set_option maxRecDepth 100000
namespace Go.Proofs.Ytenefjkgnkelgaa
open Go.RowKit
set_option linter.unusedVariables false

def toL (q : Int) (ls : List Lt) : List Lt := ls.filter fun x => x.to == q
theorem toL_snoc {q : Int} {ls : List Lt} {k : Nat} {x : Lt} (h : ls[k]? = some x) : toL q (ls.take (k + 1)) = toL q (ls.take k) ++ (if x.to == q then [x] else []) := by
  unfold toL
  rw [take_snocL h, List.filter_append]
  congr 1
  simp [List.filter]
  split <;> simp_all
theorem toL_length (q : Int) (ls : List Lt) : (toL q ls).length ≤ ls.length := List.length_filter_le _ _
theorem Small.toL {ls : List Lt} (h : Small ls) (q : Int) : Small (toL q ls) := ⟨Nat.le_trans (toL_length q ls) h.1, fun x hx => h.2 x (List.mem_filter.1 hx).1⟩

set_option maxHeartbeats 1000000 in
theorem all_any (A : Option Addr) (n c : Nat) (ls : List Lt) (q : Int) (w : World) (h : RdL w A n c ls) (hs : Small ls) :
    Calls Try.prog 23 #[.slice A n c, .int .i64 q] w (Fresh w 29 (toL q ls)) := by
  have hle := h.le
  have hs1 := h.size
  have hn := hs.1
  go_enter Try.func23, Try.ntmps23
  go_wp2
  go_loopw [5, 10] (fun v i wr => ∃ (j m : Nat) (us : List Tri), j ≤ n ∧ i = .int .i64 j ∧ m ≤ j ∧ OwnT wr w.heap.size 29 v m us ∧ Hid (AreL w us (toL q (ls.take j))) ∧ Below w.heap.size w wr) (fun _ i _ => n - (intOf i).toNat)
  case atStart => exact ⟨0, 0, [], Nat.zero_le _, rfl, Nat.le_refl _, World.ownsRow_nil _ _ _ _, AreL.nil_ w, Below.refl _ _⟩
  case round =>
    obtain ⟨j, m, us, hj, rfl, hmj, hown, HA, hbel⟩ := hrel
    by_cases hjn : j < n
    · obtain ⟨b, o, rfl⟩ := h.addr (by omega)
      obtain ⟨t, x, hx, ht, c1, c2, c3⟩ := h.at_ hjn
      obtain ⟨k1, k2, k3⟩ := cells3 c1 c2 c3 wr hbel
      have hto := ht.1
      have HS := hidT (toL_snoc (q := q) hx)
      have HTX := hidT ht
      have q1 : (0 : Int) ≤ (j : Int) := by omega
      have q2 : (j : Int) < (n : Int) := by omega
      clear c1 c2 c3 ht hx
      by_cases hq : x.to = q
      · have hq1 : (t.to == q) = true := by rw [hto]; simpa using hq
        have HS2 : Hid (toL q (ls.take (j + 1)) = toL q (ls.take j) ++ [x]) := by
          have := HS.out
          rw [if_pos (by simpa using hq)] at this
          exact this
        have hg0 : (wr.alloc (.cells #[.int .i64 t.to, .slice t.A t.n t.c, .bool t.sp] 29)).heap[wr.heap.size]? = some (.cells #[.int .i64 t.to, .slice t.A t.n t.c, .bool t.sp] 29 (0, 0)) := alloc_at _ _ _ rfl
        clear HS hto hq
        go_wp2_with (first
          | (at_builtin
             refine wpList_appT rfl (.tmp 18) (.tmp 20) 22 rfl w.heap.size 29 (.agg #[.int .i64 0, .slice none 0 0, .bool false]) 40 infoL rfl (by omega) Try.underlying22 _ m us rfl ?hole_o (some ⟨wr.heap.size + 1, 0, none⟩) 1 1 [t] rfl ?hole_r ?hole_6 ?hole_b ?_
             case hole_o => exact (hown.later ((Below.refl _ wr).alloc (Nat.le_refl _) _)).later ((Below.refl _ _).alloc (Nat.le_refl _) _)
             case hole_r =>
               refine ⟨rfl, Nat.le_refl _, by simp only [maxLen]; omega, (fun h => by cases h), fun _ => ⟨_, _, rfl, fun i u hu => ?_⟩⟩
               rw [cell_of_row _ (wr.heap.size + 1) _ _ 29 (0, 0) (alloc_at _ _ _ (by rw [size_alloc]))]
               simpa [raw] using hu
             case hole_6 => omega
             case hole_b => rw [size_alloc, size_alloc]; have := hbel.size; omega
             intro v2 w2 hown2 hb2 hgr2))
        refine ⟨⟨j + 1, m + 1, us ++ [t], by omega, by go_num, by omega, hown2, ?_, ?_⟩, by simp [intOf]; omega⟩
        · unfold Hid
          rw [HS2.out]
          exact HA.out.app (AreL.one HTX.out)
        · exact ((hbel.alloc hbel.size _).alloc (by rw [size_alloc]; have := hbel.size; omega) _).trans hb2
      · have hq1 : (t.to == q) = false := by rw [hto]; simpa using hq
        have HS2 : Hid (toL q (ls.take (j + 1)) = toL q (ls.take j)) := by
          have := HS.out
          rw [if_neg (by simpa using hq), List.append_nil] at this
          exact this
        clear HS hto hq
        go_wp2
        refine ⟨⟨j + 1, m, us, by omega, by go_num, by omega, hown.later ((Below.refl _ wr).alloc (Nat.le_refl _) _), ?_, hbel.alloc hbel.size _⟩, by simp [intOf]; omega⟩
        unfold Hid
        rw [HS2.out]
        exact HA.out
    · obtain rfl : n = j := by omega
      have HA2 := HA.out
      rw [List.take_of_length_le (by omega)] at HA2
      obtain ⟨A2, cc, rfl, hr⟩ := OwnT.rd hown
      have hf := fresh1 A2 m cc (toL q ls) (wr.alloc (.cells #[.slice A2 m cc] 22)) _ (rows1 _ _ _) ⟨us, (RdT.below hr ((Below.refl _ wr).alloc (Nat.le_refl _) _)), (HA2.below hbel).below ((Below.refl _ wr).alloc (Nat.le_refl _) _)⟩ (hs.toL q)
      clear HA HA2 hr
      go_wp2_with fail
      with_reducible refine hf.mono ?_
      rintro e w1 ⟨g, N, hN, rfl, hg, hb1⟩
      have HN := hidT hN
      clear hN hf
      have hb0 : Below w.heap.size w w1 := bthen (hbel.alloc hbel.size _) hb1
      go_wp2
      go_ret
      exact ⟨g, N, HN.out, rfl, hg.mono (by rw [size_alloc]; have := hbel.size; omega), hb0⟩
end Go.Proofs.Ytenefjkgnkelgaa
