/- What the document's own Spoil of letters comes to. -/
import Derived.Test.YtenefjkgnkelgaaNet11
import Derived.Test.YtenefjkgnkelgaaRefSpoil
set_option maxRecDepth 100000
namespace Go.Proofs.Ytenefjkgnkelgaa
open Go.RowKit
set_option linter.unusedVariables false

theorem rnspoil_out (A : Option Addr) (n c : Nat) (ls : List Lt) (i at_ : Int) (B : Option Addr) (m d : Nat) (w : World) (h : RdL w A n c ls) (hi : ¬ (0 ≤ i ∧ i < n)) :
    Calls Try.prog 18 #[.slice A n c, .int .i64 i, .int .i64 at_, .slice B m d] w (RowC w ls 7) := by
  have hle := h.le
  by_cases h0 : 0 ≤ i
  · have q1 : decide (i < 0) = false := by simpa using h0
    have q2 : decide ((n : Int) ≤ i) = true := by simp; omega
    go_enter Try.func18, Try.ntmps18
    go_wp2
    go_ret2
    exact ⟨A, n, c, rfl, h, Below.refl _ _⟩
  · have q1 : decide (i < 0) = true := by simp; omega
    go_enter Try.func18, Try.ntmps18
    go_wp2
    go_ret2
    exact ⟨A, n, c, rfl, h, Below.refl _ _⟩

set_option maxHeartbeats 2000000 in
theorem rnspoil_in (b o n c : Nat) (ls : List Lt) (k : Nat) (x : Lt) (at_ : Int) (B : Option Addr) (m d : Nat) (by_ : List UInt8) (w : World) (h : RdL w (some ⟨b, o, none⟩) n c ls) (hB : Rd w B m d by_) (hs : Small ls) (hm : m ≤ 65536) (ha : at_ ≤ 9223372036854775807) (hk : k < n) (hx : ls[k]? = some x) :
    Calls Try.prog 18 #[.slice (some ⟨b, o, none⟩) n c, .int .i64 (k : Int), .int .i64 at_, .slice B m d] w (RowC w (spoilL ls k x at_ by_) 0) := by
  obtain ⟨ts, h1, h2⟩ := h.tri
  have hsz := h.size
  have hn := hs.1
  have hcap := h.cap
  have hcle := h.cle
  have hkt : k < ts.length := by rw [h2.1]; omega
  obtain ⟨⟨to0, qA, qn, qc, qs⟩, ht⟩ : ∃ t, ts[k]? = some t := ⟨_, List.getElem?_eq_getElem hkt⟩
  have hi := h2.2 k _ x ht hx
  obtain ⟨c1, c2, c3⟩ := h1.at_ ht
  dsimp only at c1 c2 c3
  have hrx : Rd w qA qn qc x.b := hi.2.2
  rw [show to0 = x.to from hi.1] at c1
  rw [show qs = x.sp from hi.2.1] at c3
  have hxb := hs.2 x (List.mem_of_getElem? hx)
  have hxl := hrx.1
  have q1 : decide ((k : Int) < 0) = false := by simp
  have q2 : decide ((n : Int) ≤ (k : Int)) = false := by simp; omega
  have q3 : (0 : Int) ≤ (k : Int) := by omega
  have q4 : (k : Int) < (n : Int) := by omega
  have hS := rspoil_any qA qn qc x.b at_ B m d by_ w hrx hB (by omega) hm ha
  obtain ⟨y, hy⟩ : ∃ y, Crc.spoil x.b at_ by_ = y := ⟨_, rfl⟩
  rw [hy] at hS
  have HY := hidT hy
  have k1 := fun w' (hb : Below w.heap.size w w') => (hb.cell (World.block_lt_of_cell? _ _ c1)).trans c1
  have k2 := fun w' (hb : Below w.heap.size w w') => (hb.cell (World.block_lt_of_cell? _ _ c2)).trans c2
  have k3 := fun w' (hb : Below w.heap.size w w') => (hb.cell (World.block_lt_of_cell? _ _ c3)).trans c3
  have HK := hidT (And.intro k1 (And.intro k2 k3))
  have HH := hidT h
  have H1 := hidT h1
  have H2 := hidT h2
  have HX := hidT hx
  have HRX := hidT hrx
  clear hi ht hx hkt h h1 h2 hy hxl c1 c3 k1 k3 k2 hrx
  go_enter Try.func18, Try.ntmps18
  go_wp2_with fail
  with_reducible refine hS.mono ?_
  rintro e w1 ⟨A1, cc1, rfl, ho1, hb1⟩
  have hr1 := ho1.same
  have e1 := HK.out.1 w1 hb1
  have e2 := HK.out.2.1 w1 hb1
  have e3 := HK.out.2.2 w1 hb1
  have s1 := strs hr1 w1 (Below.refl _ _)
  have s2 := strs HRX.out w1 hb1
  clear hS c2
  by_cases hsp : x.sp = true
  · have HE : Hid (spoilL ls k x at_ by_ = ls) := if_pos (.inl hsp)
    rw [hsp] at e3
    clear hsp
    go_wp2_with fail
    go_quiet (fail)
    go_wp2
    go_ret2
    rw [HE.out]
    exact ⟨_, n, c, rfl, HH.out.below (bthen hb1 (drawn_below _ _)), bthen hb1 (drawn_below _ _)⟩
  · have hsp0 : x.sp = false := by simpa using hsp
    rw [hsp0] at e3
    by_cases hyx : y = x.b
    · have HE : Hid (spoilL ls k x at_ by_ = ls) := if_pos (.inr (HY.out.trans hyx))
      have z1 := str_same hyx
      have K2 := fun w' (hb : Below w1.heap.size w1 w') => HK.out.2.1 w' (bthen hb1 hb)
      have K3 := fun w' (hb : Below w1.heap.size w1 w') => HK.out.2.2 w' (bthen hb1 hb)
      rw [hsp0] at K3
      have S1 := fun w' (hb : Below w1.heap.size w1 w') => strs hr1 w' hb
      have S2 := fun w' (hb : Below w1.heap.size w1 w') => strs HRX.out w' (bthen hb1 hb)
      clear hsp hsp0 hyx e1 e2 e3 s1 s2
      go_wp2_with fail
      go_region_held (fun w' => Below w1.heap.size w1 w') (first | exact (Below.refl _ _).drew | exact Below.refl _ _) (fail)
      all_goals go_wp2
      go_ret2
      rw [HE.out]
      exact ⟨_, n, c, rfl, HH.out.below (bthen hb1 (Below.refl _ _).drew), bthen hb1 (Below.refl _ _).drew⟩
    · have HE : Hid (spoilL ls k x at_ by_ = ls.set k ⟨x.to, y, true⟩) := by
        unfold Hid spoilL
        rw [HY.out, if_neg (fun e => e.elim hsp hyx)]
      have z1 := str_other hyx
      have K2 := fun w' (hb : Below w1.heap.size w1 w') => HK.out.2.1 w' (bthen hb1 hb)
      have K3 := fun w' (hb : Below w1.heap.size w1 w') => HK.out.2.2 w' (bthen hb1 hb)
      rw [hsp0] at K3
      have S1 := fun w' (hb : Below w1.heap.size w1 w') => strs hr1 w' hb
      have S2 := fun w' (hb : Below w1.heap.size w1 w') => strs HRX.out w' (bthen hb1 hb)
      clear hsp hsp0 hyx e1 e2 e3 s1 s2
      go_wp2_with fail
      go_region_held (fun w' => Below w1.heap.size w1 w') (first | exact (Below.refl _ _).drew | exact Below.refl _ _) (fail)
      have k1 := HK.out.1 w1.drew (bthen hb1 (Below.refl _ _).drew)
      have hb2 : Below w.heap.size w w1.drew := bthen hb1 (Below.refl _ _).drew
      have hry : Rd w1.drew A1 y.length cc1 y := hr1
      obtain ⟨w2, hw2⟩ : ∃ w2, w2 = w1.drew := ⟨_, rfl⟩
      rw [← hw2] at k1 hb2 hry ⊢
      clear K2 K3 S1 S2 z1 hw2 ho1 hr1
      obtain ⟨w3, hw3⟩ : ∃ w3, w2.alloc (.cells #[.int .i64 x.to, .slice A1 y.length cc1, .bool true] 29) = w3 := ⟨_, rfl⟩
      have hb23 : Below w2.heap.size w2 w3 := by rw [← hw3]; exact nkeep_alloc (Below.refl _ _) _
      have g3 : w3.heap[w2.heap.size]? = some (.cells #[.int .i64 x.to, .slice A1 y.length cc1, .bool true] 29 (0, 0)) := by rw [← hw3]; exact alloc_at _ _ _ rfl
      have K1 := fun w' (hb : Below w3.heap.size w3 w') => (cells3g ((hb.block _ (blk_lt g3)).trans g3)).1
      have K2 := fun w' (hb : Below w3.heap.size w3 w') => (cells3g ((hb.block _ (blk_lt g3)).trans g3)).2.1
      have K3 := fun w' (hb : Below w3.heap.size w3 w') => (cells3g ((hb.block _ (blk_lt g3)).trans g3)).2.2
      have hb03 := bthen hb2 hb23
      have HW3 := hidT hw3
      have hry3 := hry.below hb23
      have hT1 := hidT (H1.out.take (k := k) (by omega))
      obtain ⟨X, hX⟩ : ∃ X, (if c = k + 1 then some (⟨b, o, none⟩ : Addr) else some ⟨b, o + (k + 1) * 3, none⟩) = X := ⟨_, rfl⟩
      have hT2 : Hid (RdT w X (n - (k + 1)) (c - (k + 1)) (ts.drop (k + 1))) := by
        unfold Hid
        rw [← hX]
        split
        · rename_i hc
          rw [List.drop_of_length_le (by rw [H2.out.1]; omega), show n - (k + 1) = 0 from by omega, show c - (k + 1) = 0 from by omega]
          exact ⟨rfl, Nat.le_refl _, Nat.zero_le _, fun _ => rfl, fun h => absurd h (by omega)⟩
        · exact H1.out.drop (by omega)
      have q5 : (k : Int) ≤ (c : Int) := by omega
      have q6 : (0 : Int) ≤ (k : Int) + 1 := by omega
      have q7 : (k : Int) + 1 ≤ (n : Int) := by omega
      have q8 : IntKind.i64.wrap ((k : Int) + 1) = (k : Int) + 1 := IntWalk.i64_in _ (by omega)
      have q9 : ((k : Int) + 1).toNat = k + 1 := by omega
      have D0 : Below w3.heap.size w3 w3.drew := (Below.refl _ _).drew
      have HRY := hidT hry3
      clear hw3 g3 hry hry3
      go_wp2_with fail
      rw [HW3.out]
      go_region_held_law (fun w' => Below w3.heap.size w3 w')
        (first | exact (Below.refl _ _).drew | exact hbE | exact hb5 | exact nkeep_alloc hb4 _ | exact hb4 | (repeat' first | exact Below.refl _ _ | refine nkeep_alloc ?_ _ | refine Below.drew ?_))
        (first
          | (refine step_appT 57 rfl rfl (.tmp 53) (.tmp 56) 22 rfl w3.heap.size 29 (.agg #[.int .i64 0, .slice none 0 0, .bool false]) 40 infoL rfl (by omega) Try.underlying22 (.slice (some ⟨w3.heap.size, 0, none⟩) 0 0) 0 [] rfl (made0 w3.drew w3.heap.size (Nat.le_refl _) _) (some ⟨b, o, none⟩) k c (ts.take k) rfl (hT1.out.below (bthen hb03 (nkeep_alloc D0 _))) (by omega) (nkeep_alloc D0 _).size ?_
             intro v4 w4 ho4 hb4' hg4
             have hb4 : Below w3.heap.size w3 w4 := (nkeep_alloc D0 _).trans hb4')
          | (refine step_appT 57 rfl rfl (.tmp 53) (.tmp 56) 22 rfl w3.heap.size 29 (.agg #[.int .i64 0, .slice none 0 0, .bool false]) 40 infoL rfl (by omega) Try.underlying22 (.slice (some ⟨w3.heap.size, 0, none⟩) 0 0) 0 [] rfl ((made0 w3.drew w3.heap.size (Nat.le_refl _) _).later (nkeep_alloc (Below.refl _ _) (.cells #[.int .i64 x.to, .slice A1 y.length cc1, .bool true] 29))) (some ⟨b, o, none⟩) k c (ts.take k) rfl (hT1.out.below (bthen hb03 (nkeep_alloc (nkeep_alloc D0 _) _))) (by omega) (nkeep_alloc (nkeep_alloc D0 _) _).size ?_
             intro v4 w4 ho4 hb4' hg4
             have hb4 : Below w3.heap.size w3 w4 := (nkeep_alloc (nkeep_alloc D0 _) _).trans hb4'
             have hL2 : RdT w4 (some ⟨w3.heap.size + 1, 0, none⟩) 1 1 [⟨x.to, A1, y.length, cc1, true⟩] := (rdt_one (w3.drew.alloc (.cells #[] 29)) ⟨x.to, A1, y.length, cc1, true⟩ 29 (w3.heap.size + 1) (size_alloc _ _)).grown hg4 (by simp [Value.ownBlock]))
          | (refine step_appT 57 rfl rfl (.tmp 53) (.tmp 56) 22 rfl w3.heap.size 29 (.agg #[.int .i64 0, .slice none 0 0, .bool false]) 40 infoL rfl (by omega) Try.underlying22 (.slice (some ⟨w3.heap.size + 1, 0, none⟩) 0 0) 0 [] rfl (made0' (w3.drew.alloc (.cells #[.int .i64 x.to, .slice A1 y.length cc1, .bool true] 29)) w3.heap.size (nkeep_alloc D0 _).size _ _ (size_alloc _ _)) (some ⟨b, o, none⟩) k c (ts.take k) rfl (hT1.out.below (bthen hb03 (nkeep_alloc (nkeep_alloc D0 _) _))) (by omega) (nkeep_alloc (nkeep_alloc D0 _) _).size ?_
             intro v4 w4 ho4 hb4' hg4
             have hb4 : Below w3.heap.size w3 w4 := (nkeep_alloc (nkeep_alloc D0 _) _).trans hb4'
             have hL2 : RdT w4 (some ⟨w3.heap.size, 0, none⟩) 1 1 [⟨x.to, A1, y.length, cc1, true⟩] := ((rdt_one w3.drew ⟨x.to, A1, y.length, cc1, true⟩ 29 w3.heap.size rfl).below (nkeep_alloc (Below.refl _ _) (.cells #[] 29))).grown hg4 (by simp [Value.ownBlock]))
          | (refine step_appT 60 rfl rfl (.tmp 57) (.tmp 59) 22 rfl w3.heap.size 29 (.agg #[.int .i64 0, .slice none 0 0, .bool false]) 40 infoL rfl (by omega) Try.underlying22 v4 (0 + k) ([] ++ ts.take k) rfl (ho4.later (nkeep_alloc (Below.refl _ _) _)) (some ⟨w4.heap.size, 0, none⟩) 1 1 [⟨x.to, A1, y.length, cc1, true⟩] rfl (rdt_one w4 ⟨x.to, A1, y.length, cc1, true⟩ _ _ rfl) (by omega) (nkeep_alloc hb4 _).size ?_
             intro v5 w5 ho5 hb5' hg5
             have hb5 : Below w3.heap.size w3 w5 := (nkeep_alloc hb4 _).trans hb5')
          | (refine step_appT 60 rfl rfl (.tmp 57) (.tmp 59) 22 rfl w3.heap.size 29 (.agg #[.int .i64 0, .slice none 0 0, .bool false]) 40 infoL rfl (by omega) Try.underlying22 v4 (0 + k) ([] ++ ts.take k) rfl ho4 _ 1 1 [⟨x.to, A1, y.length, cc1, true⟩] rfl hL2 (by omega) hb4.size ?_
             intro v5 w5 ho5 hb5' hg5
             have hb5 : Below w3.heap.size w3 w5 := hb4.trans hb5')
          | (refine step_appT 65 rfl rfl (.tmp 60) (.tmp 64) 22 rfl w3.heap.size 29 (.agg #[.int .i64 0, .slice none 0 0, .bool false]) 40 infoL rfl (by omega) Try.underlying22 v5 (0 + k + 1) ([] ++ ts.take k ++ [⟨x.to, A1, y.length, cc1, true⟩]) rfl ho5 X (n - (k + 1)) (c - (k + 1)) (ts.drop (k + 1)) rfl (hT2.out.below (bthen hb03 hb5)) (by omega) hb5.size ?_
             intro v6 w6 ho6 hb6' hg6
             have hbE : Below w3.heap.size w3 w6 := hb5.trans hb6'))
      all_goals
        have hbW : Below w.heap.size w w6 := bthen hb03 hbE
        have hset : ls.set k ⟨x.to, y, true⟩ = ls.take k ++ [(⟨x.to, y, true⟩ : Lt)] ++ ls.drop (k + 1) := by
          rw [List.set_eq_take_append_cons_drop, if_pos (by omega), List.append_assoc]
          rfl
        rw [List.nil_append] at ho6
        obtain ⟨A6, c6, rfl, hr6⟩ := OwnT.rdl ho6 ((((H2.out.below hbW).take k).app (AreL.one (t := ⟨x.to, A1, y.length, cc1, true⟩) (x := ⟨x.to, y, true⟩) ⟨rfl, rfl, HRY.out.below hbE⟩)).app ((H2.out.below hbW).drop (k + 1)))
        rw [← hset] at hr6
        have HR6 := hidT hr6
        clear hr6 hset ho6 ho5 ho4
        go_wp2
        go_ret2
        rw [HE.out]
        exact ⟨_, _, _, rfl, HR6.out, hbW⟩
end Go.Proofs.Ytenefjkgnkelgaa
