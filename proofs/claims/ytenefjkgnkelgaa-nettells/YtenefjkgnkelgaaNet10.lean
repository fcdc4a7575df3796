/- What the document's own All and Dup come to. -/
import Derived.Test.YtenefjkgnkelgaaNet9
set_option maxRecDepth 100000
namespace Go.Proofs.Ytenefjkgnkelgaa
open Go.RowKit
set_option linter.unusedVariables false

theorem RdL.tri {w : World} {b o n c : Nat} {ls : List Lt} (h : RdL w (some ⟨b, o, none⟩) n c ls) : ∃ ts, RdT w (some ⟨b, o, none⟩) n c ts ∧ AreL w ts ls := h
theorem made0' (w : World) (base : Nat) (hb : base ≤ w.heap.size) (e : TypeId) (g : Nat) (hg : w.heap.size = g) : OwnT (w.alloc (.cells #[] e)) base e (.slice (some ⟨g, 0, none⟩) 0 0) 0 [] := by
  subst hg
  exact made0 w base hb e
theorem RdT.grown {w w' : World} {g n c : Nat} {ts : List Tri} {row : Option Nat} (h : RdT w (some ⟨g, 0, none⟩) n c ts) (hg : w.grownBy w' row) (hr : row ≠ some g) : RdT w' (some ⟨g, 0, none⟩) n c ts := by
  obtain ⟨h1, h2, h3, h4, h5⟩ := h
  refine ⟨h1, h2, h3, h4, fun h0 => ?_⟩
  obtain ⟨b, o, hA, hc⟩ := h5 h0
  injection hA with hA
  injection hA with e1 e2
  subst e1; subst e2
  exact ⟨g, 0, rfl, fun i x hx => hg.cell (hc i x hx) (fun e => hr e.symm)⟩
theorem rdt_one (w : World) (t : Tri) (T : TypeId) (g : Nat) (hg : w.heap.size = g) : RdT (w.alloc (.cells #[.int .i64 t.to, .slice t.A t.n t.c, .bool t.sp] T)) (some ⟨g, 0, none⟩) 1 1 [t] := by
  subst hg
  refine ⟨rfl, Nat.le_refl _, by simp only [maxLen]; omega, (fun h => by cases h), fun _ => ⟨_, _, rfl, fun i u hu => ?_⟩⟩
  rw [cell_of_row _ w.heap.size _ _ T (0, 0) (alloc_at _ _ _ rfl)]
  simpa [raw] using hu

set_option maxHeartbeats 1000000 in
theorem rall_any (A : Option Addr) (n c : Nat) (ls : List Lt) (q : Int) (w : World) (h : RdL w A n c ls) (hn : n ≤ 65536) :
    Calls Try.prog 24 #[.slice A n c, .int .i64 q] w (RowTo w (toL q ls)) := by
  have hs1 := h.size
  go_enter Try.func24, Try.ntmps24
  go_wp2
  go_loopw [5, 6] (fun v i wr => ∃ (j m : Nat) (us : List Tri), j ≤ n ∧ i = .int .i64 j ∧ m ≤ j ∧ OwnT wr w.heap.size 29 v m us ∧ Hid (AreL w us (toL q (ls.take j))) ∧ Below w.heap.size w wr) (fun _ i _ => n - (intOf i).toNat)
  case atStart => exact ⟨0, 0, [], Nat.zero_le _, rfl, Nat.le_refl _, World.ownsRow_nil _ _ _ _, AreL.nil_ w, Below.refl _ _⟩
  case round =>
    obtain ⟨j, m, us, hj, rfl, hmj, hown, HA, hbel⟩ := hrel
    by_cases hjn : j < n
    · obtain ⟨b, o, rfl⟩ := h.addr (by omega)
      obtain ⟨t, x, hx, ht, c1, c2, c3⟩ := h.at_ hjn
      obtain ⟨k1, k2, k3⟩ := cells3 c1 c2 c3 wr hbel
      have hto := ht.1
      have HS := hidT (toL_snoc (q := q) hx)
      have HTX := hidT ht
      have q1 : (0 : Int) ≤ (j : Int) := by omega
      have q2 : (j : Int) < (n : Int) := by omega
      clear c1 c2 c3 ht hx
      by_cases hq : x.to = q
      · have hq1 : (t.to == q) = true := by rw [hto]; simpa using hq
        have HS2 : Hid (toL q (ls.take (j + 1)) = toL q (ls.take j) ++ [x]) := by
          have := HS.out
          rw [if_pos (by simpa using hq)] at this
          exact this
        clear HS hto hq
        go_wp2_with (first
          | (at_builtin
             refine wpList_appT rfl (.tmp 20) (.tmp 25) 22 rfl w.heap.size 29 (.agg #[.int .i64 0, .slice none 0 0, .bool false]) 40 infoL rfl (by omega) Try.underlying22 _ m us rfl ?hole_o (some ⟨wr.heap.size, 0, none⟩) 1 1 [t] rfl ?hole_r ?hole_6 ?hole_b ?_
             case hole_o => exact hown.later ((Below.refl _ wr).alloc (Nat.le_refl _) _)
             case hole_r => exact rdt_one wr t _ _ rfl
             case hole_6 => omega
             case hole_b => rw [size_alloc]; have := hbel.size; omega
             intro v2 w2 hown2 hb2 hgr2))
        refine ⟨⟨j + 1, m + 1, us ++ [t], by omega, by go_num, by omega, hown2, ?_, ?_⟩, by simp [intOf]; omega⟩
        · unfold Hid
          rw [HS2.out]
          exact HA.out.app (AreL.one HTX.out)
        · exact (hbel.alloc hbel.size _).trans hb2
      · have hq1 : (t.to == q) = false := by rw [hto]; simpa using hq
        have HS2 : Hid (toL q (ls.take (j + 1)) = toL q (ls.take j)) := by
          have := HS.out
          rw [if_neg (by simpa using hq), List.append_nil] at this
          exact this
        clear HS hto hq
        go_wp2
        refine ⟨⟨j + 1, m, us, by omega, by go_num, by omega, hown, ?_, hbel⟩, by simp [intOf]; omega⟩
        unfold Hid
        rw [HS2.out]
        exact HA.out
    · obtain rfl : n = j := by omega
      have HA2 := HA.out
      rw [List.take_of_length_le (by omega)] at HA2
      obtain ⟨A2, cc, rfl, hr⟩ := OwnT.rdl hown (HA2.below hbel)
      have HR := hidT hr
      clear HA HA2 hr
      go_wp2
      go_ret
      exact ⟨A2, m, cc, rfl, HR.out, hbel⟩

theorem rdup_out (A : Option Addr) (n c : Nat) (ls : List Lt) (i : Int) (w : World) (h : RdL w A n c ls) (hi : ¬ (0 ≤ i ∧ i < n)) :
    Calls Try.prog 16 #[.slice A n c, .int .i64 i] w (RowC w ls 7) := by
  have hle := h.le
  by_cases h0 : 0 ≤ i
  · have q1 : decide (i < 0) = false := by simpa using h0
    have q2 : decide ((n : Int) ≤ i) = true := by simp; omega
    go_enter Try.func16, Try.ntmps16
    go_wp2
    go_ret2
    exact ⟨A, n, c, rfl, h, Below.refl _ _⟩
  · have q1 : decide (i < 0) = true := by simp; omega
    go_enter Try.func16, Try.ntmps16
    go_wp2
    go_ret2
    exact ⟨A, n, c, rfl, h, Below.refl _ _⟩

set_option maxHeartbeats 1000000 in
theorem rdup_in (b o n c : Nat) (ls : List Lt) (k : Nat) (x : Lt) (w : World) (h : RdL w (some ⟨b, o, none⟩) n c ls) (hn : n ≤ 65536) (hk : k < n) (hx : ls[k]? = some x) :
    Calls Try.prog 16 #[.slice (some ⟨b, o, none⟩) n c, .int .i64 (k : Int)] w (RowC w (ls ++ [x]) 0) := by
  obtain ⟨ts, h1, h2⟩ := h.tri
  have hs := h.size
  have hkt : k < ts.length := by rw [h2.1]; omega
  obtain ⟨t, ht⟩ : ∃ t, ts[k]? = some t := ⟨_, List.getElem?_eq_getElem hkt⟩
  have hi := h2.2 k t x ht hx
  obtain ⟨c1, c2, c3⟩ := h1.at_ ht
  have q1 : decide ((k : Int) < 0) = false := by simp
  have q2 : decide ((n : Int) ≤ (k : Int)) = false := by simp; omega
  have q3 : (0 : Int) ≤ (k : Int) := by omega
  have q4 : (k : Int) < (n : Int) := by omega
  have hle := h.le
  have k1 := fun w' hb => (cells3 c1 c2 c3 w' hb).1
  have k2 := fun w' hb => (cells3 c1 c2 c3 w' hb).2.1
  have k3 := fun w' hb => (cells3 c1 c2 c3 w' hb).2.2
  have HI := hidT hi
  have H1 := hidT h1
  have H2 := hidT h2
  clear hi ht h hx hkt hs h1 h2 c1 c2 c3
  go_enter Try.func16, Try.ntmps16
  go_wp2
  have D0 : Below w.heap.size w w.drew := (Below.refl _ _).drew
  go_region_held_law (fun w' => Below w.heap.size w w')
    (first | exact (Below.refl _ _).drew | exact hbE | exact nkeep_alloc hb2 _ | exact hb2 | (repeat' first | exact Below.refl _ _ | refine nkeep_alloc ?_ _ | refine Below.drew ?_))
    (first
      | (refine step_appT 17 rfl rfl (.tmp 15) (.tmp 16) 22 rfl w.heap.size 29 (.agg #[.int .i64 0, .slice none 0 0, .bool false]) 40 infoL rfl (by omega) Try.underlying22 (.slice (some ⟨w.heap.size, 0, none⟩) 0 0) 0 [] rfl (made0 w.drew w.heap.size (Nat.le_refl _) _) (some ⟨b, o, none⟩) n c ts rfl (H1.out.below (nkeep_alloc D0 _)) (by omega) (nkeep_alloc D0 _).size ?_
         intro v2 w2 ho2 hb2' hg2
         have hb2 : Below w.heap.size w w2 := (nkeep_alloc D0 _).trans hb2')
      | (refine step_appT 17 rfl rfl (.tmp 15) (.tmp 16) 22 rfl w.heap.size 29 (.agg #[.int .i64 0, .slice none 0 0, .bool false]) 40 infoL rfl (by omega) Try.underlying22 (.slice (some ⟨w.heap.size, 0, none⟩) 0 0) 0 [] rfl ((made0 w.drew w.heap.size (Nat.le_refl _) _).later (nkeep_alloc (Below.refl _ _) (.cells #[.int .i64 t.to, .slice t.A t.n t.c, .bool t.sp] 29))) (some ⟨b, o, none⟩) n c ts rfl (H1.out.below (nkeep_alloc (nkeep_alloc D0 _) _)) (by omega) (nkeep_alloc (nkeep_alloc D0 _) _).size ?_
         intro v2 w2 ho2 hb2' hg2
         have hb2 : Below w.heap.size w w2 := (nkeep_alloc (nkeep_alloc D0 _) _).trans hb2'
         have hL2 : RdT w2 (some ⟨w.heap.size + 1, 0, none⟩) 1 1 [t] := (rdt_one (w.drew.alloc (.cells #[] 29)) t 29 (w.heap.size + 1) (size_alloc _ _)).grown hg2 (by simp [Value.ownBlock]))
      | (refine step_appT 17 rfl rfl (.tmp 15) (.tmp 16) 22 rfl w.heap.size 29 (.agg #[.int .i64 0, .slice none 0 0, .bool false]) 40 infoL rfl (by omega) Try.underlying22 (.slice (some ⟨w.heap.size + 1, 0, none⟩) 0 0) 0 [] rfl (made0' (w.drew.alloc (.cells #[.int .i64 t.to, .slice t.A t.n t.c, .bool t.sp] 29)) w.heap.size (nkeep_alloc D0 _).size _ _ (size_alloc _ _)) (some ⟨b, o, none⟩) n c ts rfl (H1.out.below (nkeep_alloc (nkeep_alloc D0 _) _)) (by omega) (nkeep_alloc (nkeep_alloc D0 _) _).size ?_
         intro v2 w2 ho2 hb2' hg2
         have hb2 : Below w.heap.size w w2 := (nkeep_alloc (nkeep_alloc D0 _) _).trans hb2'
         have hL2 : RdT w2 (some ⟨w.heap.size, 0, none⟩) 1 1 [t] := ((rdt_one w.drew t 29 w.heap.size rfl).below (nkeep_alloc (Below.refl _ _) (.cells #[] 29))).grown hg2 (by simp [Value.ownBlock]))
      | (refine step_appT 23 rfl rfl (.tmp 17) (.tmp 22) 22 rfl w.heap.size 29 (.agg #[.int .i64 0, .slice none 0 0, .bool false]) 40 infoL rfl (by omega) Try.underlying22 v2 (0 + n) ([] ++ ts) rfl (ho2.later (nkeep_alloc (Below.refl _ _) _)) (some ⟨w2.heap.size, 0, none⟩) 1 1 [t] rfl (rdt_one w2 t _ _ rfl) (by omega) (nkeep_alloc hb2 _).size ?_
         intro v3 w3 ho3 hb3' hg3
         have hbE : Below w.heap.size w w3 := (nkeep_alloc hb2 _).trans hb3')
      | (refine step_appT 23 rfl rfl (.tmp 17) (.tmp 22) 22 rfl w.heap.size 29 (.agg #[.int .i64 0, .slice none 0 0, .bool false]) 40 infoL rfl (by omega) Try.underlying22 v2 (0 + n) ([] ++ ts) rfl ho2 _ 1 1 [t] rfl hL2 (by omega) hb2.size ?_
         intro v3 w3 ho3 hb3' hg3
         have hbE : Below w.heap.size w w3 := hb2.trans hb3'))
  all_goals
    go_wp2
    rw [List.nil_append] at ho3
    obtain ⟨A3, c3, rfl, hr⟩ := OwnT.rdl ho3 ((H2.out.below hbE).app (AreL.one (HI.out.below hbE)))
    go_ret2
    exact ⟨A3, _, c3, rfl, hr, hbE⟩
end Go.Proofs.Ytenefjkgnkelgaa
