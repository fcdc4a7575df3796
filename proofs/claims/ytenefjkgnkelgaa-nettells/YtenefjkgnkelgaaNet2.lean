/- What net's 'fresh' and 'has' come to. -/
import Derived.Test.YtenefjkgnkelgaaNet1
import Derived.Test.YtenefjkgnkelgaaBA
set_option maxRecDepth 100000
namespace Go.Proofs.Ytenefjkgnkelgaa
open Go.RowKit
set_option linter.unusedVariables false

/-- A row of letters that is handed in, its cells. -/
structure Rw where
  A : Option Addr
  n : Nat
  c : Nat
  ts : List Tri
def rowsV (rs : List Rw) : List Value := rs.map fun r => .slice r.A r.n r.c
def tsOf : List Rw → List Tri
  | [] => []
  | r :: rs => r.ts ++ tsOf rs
theorem tsOf_append (rs qs : List Rw) : tsOf (rs ++ qs) = tsOf rs ++ tsOf qs := by
  induction rs with
  | nil => rfl
  | cons r rs ih => simp [tsOf, ih]
theorem tsOf_next {rs : List Rw} {j : Nat} {r : Rw} (h : rs[j]? = some r) : tsOf (rs.take (j + 1)) = tsOf (rs.take j) ++ r.ts := by
  rw [take_snocL h, tsOf_append]
  simp [tsOf]
theorem tsOf_le (rs : List Rw) (j : Nat) : (tsOf (rs.take j)).length ≤ (tsOf rs).length := by
  have : tsOf rs = tsOf (rs.take j) ++ tsOf (rs.drop j) := by rw [← tsOf_append, List.take_append_drop]
  rw [this, List.length_append]
  omega
/-- A row of the call's own, each letter's bytes out of its block, that reads as these letters. -/
def IsFresh (base : Nat) (T : TypeId) (ls : List Lt) (g : Nat) (w' : World) : Prop :=
  base ≤ g ∧ ∃ us, w'.heap[g]? = some (.cells (raw us).toArray T (0, 0)) ∧ AreL w' us ls ∧ Off g us
theorem IsFresh.rd {base g k : Nat} {T : TypeId} {ls : List Lt} {w : World} (h : IsFresh base T ls g w) (hk : ls.length = k) (hl : k ≤ 65536) : RdL w (some ⟨g, 0, none⟩) k k ls := by
  subst hk
  obtain ⟨_, us, h1, h2, _⟩ := h
  have e := h2.1
  have hl : ls.length ≤ maxLen := by simp only [maxLen]; omega
  rw [← e] at hl ⊢
  exact ⟨us, RdT.of_block h1 hl, h2⟩
def Fresh (w : World) (T : TypeId) (ls : List Lt) (e : Ending) (w' : World) : Prop :=
  ∃ g k, ls.length = k ∧ e = .returned (.slice (some ⟨g, 0, none⟩) k k) ∧ IsFresh w.heap.size T ls g w' ∧ Below w.heap.size w w'
theorem splice_next (X Y : List Value) (Z : List Value) (h : X.length + Y.length ≤ Z.length) : splice (X ++ Z.drop X.length) X.length Y = (X ++ Y) ++ Z.drop (X ++ Y).length := by
  unfold splice
  rw [List.take_left' rfl, List.drop_append, List.drop_of_length_le (by omega), List.nil_append, List.drop_drop, List.length_append, List.append_assoc]
  congr 3
  omega

/-- A letter's bytes are put in another place. -/
theorem setB_done {w : World} {g j : Nat} {T : TypeId} {us : List Tri} {ls : List Lt} {t : Tri} {x : Lt} {A : Option Addr} {n c : Nat} (hg : w.heap[g]? = some (.cells (raw us).toArray T (0, 0))) (hl : AreL w us ls) (ho : Off g us)
    (ht : us[j]? = some t) (hx : ls[j]? = some x) (hr : Rd w A n c x.b) (hA : 0 < n → ∀ b o, A = some ⟨b, o, none⟩ → b ≠ g) :
    ∃ us', (w.setCell ⟨g, j * 3 + 1, none⟩ (.slice A n c)).heap[g]? = some (.cells (raw us').toArray T (0, 0)) ∧ AreL (w.setCell ⟨g, j * 3 + 1, none⟩ (.slice A n c)) us' ls ∧ Off g us' := by
  have hi := hl.2 j t x ht hx
  have e : ls.set j x = ls := by
    obtain ⟨hj, hx'⟩ := List.getElem?_eq_some_iff.1 hx
    rw [← hx']
    exact List.set_getElem_self hj
  have h2 : AreL w (us.set j ⟨t.to, A, n, c, t.sp⟩) (ls.set j x) := hl.set j ⟨hi.1, hi.2.1, hr⟩
  rw [e] at h2
  have o2 : Off g (us.set j ⟨t.to, A, n, c, t.sp⟩) := ho.set j hA
  refine ⟨_, ?_, h2.but o2 (But.setCell w g _ _), o2⟩
  rw [heap_setCell_same w g _ _ T _ hg, raw_setB ht, List.setIfInBounds_toArray]
theorem cellB {w : World} {g j : Nat} {T : TypeId} {us : List Tri} {t : Tri} (hg : w.heap[g]? = some (.cells (raw us).toArray T (0, 0))) (ht : us[j]? = some t) :
    w.cell? ⟨g, j * 3, none⟩ = some (.int .i64 t.to) ∧ w.cell? ⟨g, j * 3 + 1, none⟩ = some (.slice t.A t.n t.c) ∧ w.cell? ⟨g, j * 3 + 2, none⟩ = some (.bool t.sp) := by
  obtain ⟨r1, r2, r3⟩ := raw_at ht
  rw [cell_of_row _ g _ _ T _ hg, cell_of_row _ g _ _ T _ hg, cell_of_row _ g _ _ T _ hg]
  simp [r1, r2, r3]

theorem infoL : (Try.prog.info? 29).map (fun i => (i.zero, i.size, i.bytes)) = some (some (.agg #[.int .i64 0, .slice none 0 0, .bool false]), 3, 40) := by kernel_rfl

theorem infoL3 : (Try.prog.info? 29).map (·.size) = some 3 := by kernel_rfl
set_option maxHeartbeats 4000000 in
theorem fresh_any (A : Option Addr) (k c : Nat) (rs : List Rw) (ls : List Lt) (w : World) (hV : RdV w A k c (rowsV rs)) (hR : ∀ r ∈ rs, RdT w r.A r.n r.c r.ts) (hL : AreL w (tsOf rs) ls)
    (hn : ls.length ≤ 65536) (hb : ∀ x ∈ ls, x.b.length ≤ 65536) :
    Calls Try.prog 25 #[.slice A k c] w (Fresh w 29 ls) := by
  have hk := hV.le
  have hkl : rs.length = k := by have := hV.1; simpa [rowsV] using this
  obtain ⟨i0, hi0, hz0, hz1, hz2⟩ := info_parts infoL
  obtain ⟨N, hN⟩ : ∃ N, (tsOf rs).length = N := ⟨_, rfl⟩
  have hNl : ls.length = N := by rw [← hL.1]; exact hN
  have row : ∀ j, j < k → ∃ b o r, A = some ⟨b, o, none⟩ ∧ rs[j]? = some r ∧ ∀ wr, Below w.heap.size w wr → wr.cell? ⟨b, o + j, none⟩ = some (.slice r.A r.n r.c) := by
    intro j hj
    obtain ⟨b, o, u, hA, hu, hc⟩ := hV.at_ hj
    simp only [rowsV, List.getElem?_map, Option.map_eq_some_iff] at hu
    obtain ⟨r, hr, rfl⟩ := hu
    exact ⟨b, o, r, hA, hr, fun wr hb => (hb.cell (World.block_lt_of_cell? _ _ hc)).trans hc⟩
  have ROW := hidT row
  clear row
  have HR := hidT hR
  clear hR
  go_enter Try.func25, Try.ntmps25
  go_wp2
  go_loop [3, 13] (fun m i => ∃ j : Nat, j ≤ k ∧ i = .int .i64 j ∧ m = .int .i64 ((tsOf (rs.take j)).length : Nat)) (fun _ i => k - (intOf i).toNat)
  case atStart => exact ⟨0, Nat.zero_le _, rfl, rfl⟩
  case round =>
    obtain ⟨j, hj, rfl, rfl⟩ := hrel
    have hjN := tsOf_le rs j
    by_cases hjk : j < k
    · obtain ⟨b, o, r, rfl, hr, hc⟩ := ROW.out j hjk
      have hc0 := hc w (Below.refl _ _)
      clear hc
      have hrn : r.ts.length = r.n := (HR.out r (List.mem_of_getElem? hr)).1
      have HT : Hid ((tsOf (rs.take (j + 1))).length = (tsOf (rs.take j)).length + r.n) := by rw [tsOf_next hr, List.length_append, hrn]; rfl
      have hjN1 := tsOf_le rs (j + 1)
      have hjN2 : (tsOf (rs.take j)).length + r.n ≤ 65536 := by rw [← HT.out]; omega
      clear hjN1 hrn
      have HRR := hidT hr
      clear hr
      go_wp2
      refine ⟨⟨j + 1, by omega, by go_num, ?_⟩, by simp [intOf]; omega⟩
      rw [HT.out]
      go_num
    · obtain rfl : k = j := by omega
      have e : rs.take k = rs := List.take_of_length_le (by omega)
      rw [e, hN]
      clear e hjN
      go_wp2_with (first
        | (at_make
           refine wpList_make_full _ rfl _ _ 22 rfl w.heap.size 29 i0 _ 3 Try.underlying22 hi0 hz0 hz1 _ _ _ _ N rfl rfl rfl rfl (by rw [hz2]; omega) (by simp only [maxLen]; omega) (Nat.le_refl _) ?_
           intro w1 hown1 hg1))
      have hb1 : Below w.heap.size w w1 := (Below.refl _ _).grown hg1 (Nat.le_refl _) (fun k hk => by cases hk)
      obtain ⟨Z, hZ⟩ : ∃ Z, (madeCells (Value.agg #[.int .i64 0, .slice none 0 0, .bool false]).cells (N * 3)).toList = Z := ⟨_, rfl⟩
      have hZl : Z.length = N * 3 := by rw [← hZ, Array.length_toList, size_madeCells]
      have hg0 : w1.heap[w.heap.size]? = some (.cells Z.toArray 29 (0, 0)) := by
        rw [hZ] at hown1
        rcases hown1.2 with ⟨h, _⟩ | ⟨g, cap, cur, hv, _, hh, _, _, hs, ht⟩
        · cases h
        · injection hv with hv1 _ hv2
          injection hv1 with hv1
          injection hv1 with hv1
          subst hv1
          subst hv2
          rw [List.take_of_length_le (by rw [Array.length_toList, hs]; exact Nat.le_refl _)] at ht
          rw [hh, ← ht]
      have hgw1 : w.heap.size < w1.heap.size := by
        rcases Nat.lt_or_ge w.heap.size w1.heap.size with hlt | hge
        · exact hlt
        · rw [Array.getElem?_eq_none hge] at hg0; cases hg0
      clear hown1 hg1 hZ
      obtain ⟨g, hg⟩ : ∃ g, g = w.heap.size := ⟨_, rfl⟩
      have HOFF : Hid (Off g (tsOf rs)) := hL.off (by omega)
      have HL := hidT hL
      clear hL
      rw [← hg] at hg0 hgw1 ⊢
      have HG := hidT hg
      have hgle : w.heap.size ≤ g := by omega
      clear hg
      go_wp2
      go_loopw [7, 26] (fun m i wr => ∃ j : Nat, j ≤ k ∧ i = .int .i64 j ∧ m = .int .i64 ((tsOf (rs.take j)).length : Nat) ∧ wr.heap[g]? = some (.cells (raw (tsOf (rs.take j)) ++ Z.drop (raw (tsOf (rs.take j))).length).toArray 29 (0, 0)) ∧ Below w.heap.size w wr) (fun _ i _ => k - (intOf i).toNat)
      case atStart => exact ⟨0, Nat.zero_le _, rfl, rfl, hg0, hb1⟩
      case round =>
        obtain ⟨j, hj, rfl, rfl, hgj, hbel⟩ := hrel
        have hjN := tsOf_le rs j
        by_cases hjk : j < k
        · obtain ⟨b, o, r, rfl, hr, hc⟩ := ROW.out j hjk
          have hc0 := hc wr hbel
          clear hc
          have hrT := (HR.out r (List.mem_of_getElem? hr)).below hbel
          have hrn := hrT.1
          have hrle := hrT.le
          have HT : Hid (tsOf (rs.take (j + 1)) = tsOf (rs.take j) ++ r.ts) := tsOf_next hr
          have hjN1 := tsOf_le rs (j + 1)
          rw [HT.out, List.length_append] at hjN1
          obtain ⟨p, hp⟩ : ∃ p, (tsOf (rs.take j)).length = p := ⟨_, rfl⟩
          have hXl : (raw (tsOf (rs.take j))).length = p * 3 := by rw [raw_length, hp]
          rw [hp] at hjN1 hjN ⊢
          have hpN : p + r.n ≤ N := by omega
          have HP := hidT hp
          have HRR := hidT hr
          have HRN := hidT hrn
          have HRT := hidT hrT
          obtain ⟨X, hX⟩ : ∃ X, raw (tsOf (rs.take j)) = X := ⟨_, rfl⟩
          rw [hX] at hgj hXl
          have HX := hidT hX
          have HXL := hidT hXl
          clear hr hrn hrT hp hX hXl hjN1
          obtain ⟨L, hLL⟩ : ∃ L, X ++ Z.drop X.length = L := ⟨_, rfl⟩
          rw [hLL] at hgj
          have HLL := hidT hLL
          clear hLL
          have hLl : L.length = N * 3 := by rw [← HLL.out, List.length_append, List.length_drop, hZl, HXL.out]; omega
          have HLl := hidT hLl
          clear hLl
          have s1 : (0 : Int) ≤ (p : Int) := by omega
          have s2 : (p : Int) ≤ (N : Int) := by omega
          have hcells : ∀ j v, (raw r.ts)[j]? = some v → 0 < r.n → ∃ ad, r.A = some ad ∧ wr.cell? (ad.add j) = some v := by
            intro i v hv h0
            obtain ⟨b, o, hA, hc⟩ := HRT.out.2.2.2.2 h0
            exact ⟨_, hA, by rw [add_eq]; exact hc i v hv⟩
          have HC := hidT hcells
          clear hcells
          by_cases hpn : p < N
          · have hnp : ¬ N = p := by omega
            have hnp' : ¬ p = N := by omega
            go_wp2_with (first
              | (refine wpList_copyT rfl (.tmp 33) (.tmp 34) 22 22 rfl 29 3 Try.underlying22 infoL3 (some ⟨g, p * 3, none⟩) r.A (N - p) (N - p) r.n r.c ?hole_d ?hole_s g (p * 3) L 29 hgj (raw r.ts) r.n ?hole_m ?hole_n ?hole_pos ?hole_fit (raw_one _) ?_
                 case hole_d => rfl
                 case hole_s => rfl
                 case hole_m => exact (Nat.min_eq_left (by omega)).symm
                 case hole_n => rw [raw_length, HRN.out]
                 case hole_pos =>
                   intro h0
                   obtain ⟨b, o, hA, hc⟩ := HRT.out.2.2.2.2 h0
                   exact ⟨rfl, _, hA, fun i v hv => by rw [add_eq]; exact hc i v hv⟩
                 case hole_fit => rw [HLl.out, raw_length, HRN.out]; omega
                 intro w2 hh2 hbw hbut))
            refine ⟨⟨j + 1, by omega, by go_num, ?_, ?_, hbw _ _ hbel hgle⟩, by simp [intOf]; omega⟩
            · rw [HT.out, List.length_append, HP.out, HRN.out]; go_num
            · have e := splice_next X (raw r.ts) Z (by rw [raw_length, HXL.out, HRN.out, hZl]; omega)
              rw [HLL.out, HXL.out] at e
              rw [HT.out, raw_append, HX.out, ← e]
              exact hh2.out
          · obtain rfl : N = p := by omega
            have HR0 : Hid (r.ts = []) := List.eq_nil_of_length_eq_zero (by rw [HRN.out]; omega)
            go_wp2_with (first
              | (refine wpList_copyT rfl (.tmp 33) (.tmp 34) 22 22 rfl 29 3 Try.underlying22 infoL3 (some ⟨g, 0, none⟩) r.A 0 0 r.n r.c ?hole_d ?hole_s g 0 L 29 hgj [] 0 ?hole_m ?hole_n ?hole_pos ?hole_fit ?hole_one ?_
                 case hole_d => rfl
                 case hole_s => rfl
                 case hole_m => exact (Nat.min_zero _).symm
                 case hole_n => rfl
                 case hole_pos => intro h0; omega
                 case hole_fit => exact Nat.zero_le _
                 case hole_one => intro v hv; cases hv
                 intro w2 hh2 hbw hbut))
            refine ⟨⟨j + 1, by omega, by go_num, ?_, ?_, hbw _ _ hbel hgle⟩, by simp [intOf]; omega⟩
            · rw [HT.out, List.length_append, HP.out, HR0.out]; go_num
            · rw [HT.out, HR0.out, List.append_nil, HX.out, HLL.out]
              have := hh2.out
              simpa [splice] using this
        · obtain rfl : k = j := by omega
          have e : rs.take k = rs := List.take_of_length_le (by omega)
          rw [e, List.drop_of_length_le (by rw [raw_length, hN, hZl]; exact Nat.le_refl _), List.append_nil] at hgj
          clear hjN e
          go_wp2
          go_loopw [40] (fun i wr => ∃ (j : Nat) (us : List Tri), j ≤ N ∧ i = .int .i64 j ∧ wr.heap[g]? = some (.cells (raw us).toArray 29 (0, 0)) ∧ AreL wr us ls ∧ Off g us ∧ Below w.heap.size w wr) (fun i _ => N - (intOf i).toNat)
          case atStart => exact ⟨0, _, Nat.zero_le _, rfl, hgj, HL.out.below hbel, HOFF.out, hbel⟩
          case round =>
            obtain ⟨j, us, hj, rfl, hgu, hlu, hou, hbw⟩ := hrel
            by_cases hjn : j < N
            · have hjl : j < ls.length := by omega
              have hju : j < us.length := by rw [hlu.1]; exact hjl
              obtain ⟨t, ht⟩ : ∃ t, us[j]? = some t := ⟨_, List.getElem?_eq_getElem hju⟩
              obtain ⟨x, hx⟩ : ∃ x, ls[j]? = some x := ⟨_, List.getElem?_eq_getElem hjl⟩
              have hi := hlu.2 j t x ht hx
              have hxb := hb x (List.mem_of_getElem? hx)
              have hxn : x.b.length = t.n := hi.2.2.1
              have hcl := clone_any t.A t.n t.c x.b wr hi.2.2 (by omega)
              obtain ⟨_, k2, _⟩ := cellB hgu ht
              have hgl : g < wr.heap.size := by
                rcases Nat.lt_or_ge g wr.heap.size with hlt | hge
                · exact hlt
                · rw [Array.getElem?_eq_none hge] at hgu; cases hgu
              have HT := hidT ht
              have HX := hidT hx
              clear ht hx hi hxn hju hjl
              have t1 : (0 : Int) ≤ (j : Int) := by omega
              have t2 : (j : Int) < (N : Int) := by omega
              go_wp2_with fail
              with_reducible refine hcl.mono ?_
              rintro e w2 ⟨A2, c2, rfl, ho2, hb2⟩
              have hgu2 := (hb2.block g hgl).trans hgu
              obtain ⟨_, k2', _⟩ := cellB hgu2 HT.out
              have hf2 := frozen_of_row w2 g (j * 3 + 1) _ _ hgu2
              have HD := setB_done (c := c2) hgu2 (hlu.below hb2) hou HT.out HX.out ho2.same (fun h0 b o hA => by
                have := addrB ho2 (Nat.le_refl _) b o hA
                omega)
              have HB := ((hbw.trans (hb2.mono hbw.size)).setCell (p := ⟨g, j * 3 + 1, none⟩) hgle (.slice A2 x.b.length c2))
              clear hcl ho2
              have HDD := hidT HD
              have HBB := hidT HB
              clear HD HB k2
              go_wp2
              obtain ⟨us', d1, d2, d3⟩ := HDD.out
              exact ⟨⟨j + 1, us', by omega, by go_num, d1, d2, d3, HBB.out⟩, by simp [intOf]; omega⟩
            · obtain rfl : N = j := by omega
              go_wp2
              go_ret
              exact ⟨g, N, hNl, rfl, ⟨hgle, us, hgu, hlu, hou⟩, hbw⟩
end Go.Proofs.Ytenefjkgnkelgaa
