/- The law NetSpoilt, walked. -/
import Derived.Test.YtenefjkgnkelgaaNetLaw
import Derived.Test.YtenefjkgnkelgaaNetL2
set_option maxRecDepth 100000
namespace Go.Proofs.Ytenefjkgnkelgaa
open Go.RowKit
set_option linter.unusedVariables false

/-- A letter spoilt. -/
def spL (x : Lt) (at_ : Int) (by_ : List UInt8) : Lt := if x.sp = true ∨ Crc.spoil x.b at_ by_ = x.b then x else ⟨x.to, Crc.spoil x.b at_ by_, true⟩
theorem set_self {ls : List Lt} {k : Nat} {x : Lt} (h : ls[k]? = some x) : ls.set k x = ls := by
  obtain ⟨hj, hx'⟩ := List.getElem?_eq_some_iff.1 h
  rw [← hx']
  exact List.set_getElem_self hj
theorem spoilL_eq {ls : List Lt} {k : Nat} {x : Lt} (h : ls[k]? = some x) (at_ : Int) (by_ : List UInt8) : spoilL ls k x at_ by_ = ls.set k (spL x at_ by_) := by
  unfold spoilL spL
  split
  · exact (set_self h).symm
  · rfl
theorem spL_to (x : Lt) (at_ : Int) (by_ : List UInt8) : (spL x at_ by_).to = x.to := by unfold spL; split <;> rfl
theorem spL_len (x : Lt) (at_ : Int) (by_ : List UInt8) : (spL x at_ by_).b.length = x.b.length := by
  unfold spL
  split
  · rfl
  · exact Crc.spoil_length _ _ _
theorem spL_sp {x : Lt} (h : x.sp = true) (at_ : Int) (by_ : List UInt8) : spL x at_ by_ = x := by unfold spL; rw [if_pos (.inl h)]
theorem spL_not {x : Lt} {at_ : Int} {by_ : List UInt8} (h : (spL x at_ by_).sp = false) : spL x at_ by_ = x := by
  unfold spL at h ⊢
  split
  · rfl
  · rename_i hc; rw [if_neg hc] at h; cases h
theorem spL_did {x : Lt} {at_ : Int} {by_ : List UInt8} (h0 : x.sp = false) (h : (spL x at_ by_).sp = true) : (spL x at_ by_).b = Crc.spoil x.b at_ by_ ∧ (spL x at_ by_).b ≠ x.b := by
  unfold spL at h ⊢
  split
  · rename_i hc; rw [if_pos hc, h0] at h; cases h
  · rename_i hc
    exact ⟨rfl, fun e => hc (.inr e)⟩
theorem set_take (ls : List Lt) (k : Nat) (x : Lt) : (ls.set k x).take k = ls.take k := by rw [List.take_set_of_le (Nat.le_refl _)]
theorem set_drop (ls : List Lt) (k : Nat) (x : Lt) : (ls.set k x).drop (k + 1) = ls.drop (k + 1) := by rw [List.drop_set_of_lt (by omega)]
theorem small_set {ls : List Lt} (h : Small ls) (k : Nat) {x : Lt} (hx : x.b.length ≤ 65536) : Small (ls.set k x) := by
  refine ⟨by rw [List.length_set]; exact h.1, fun y hy => ?_⟩
  rcases List.mem_or_eq_of_mem_set hy with hy | rfl
  · exact h.2 y hy
  · exact hx
theorem cut_rdA {w : World} {b o n c k : Nat} {ls : List Lt} (h : RdL w (some ⟨b, o, none⟩) n c ls) (hk : k ≤ n) : RdL w (if c = k then some ⟨b, o, none⟩ else some ⟨b, o + k * 3, none⟩) (n - k) (c - k) (ls.drop k) := by
  have := cut_rd h hk
  split
  · rename_i hc; rw [if_pos hc] at this; exact this
  · rename_i hc; rw [if_neg hc] at this; exact this
/-- Where the two differ. -/
def Df (y x : List UInt8) (j : Nat) : Prop := y[j]? ≠ x[j]?
theorem df_near {x : List UInt8} {a : Int} {b : List UInt8} {i j : Nat} (hi : Df (Crc.spoil x a b) x i) (hj : Df (Crc.spoil x a b) x j) : (j : Int) - (i : Int) ≤ 3 := by
  have h1 : ¬ (a < 0 ∨ (i : Int) < a ∨ 3 < (i : Int) - a) := fun h => hi (Crc.spoil_far x a b i h)
  have h2 : ¬ (a < 0 ∨ (j : Int) < a ∨ 3 < (j : Int) - a) := fun h => hj (Crc.spoil_far x a b j h)
  omega

set_option maxRecDepth 100000 in
set_option maxHeartbeats 4000000 in
theorem nspoilt_in (b o n c : Nat) (ls : List Lt) (k : Nat) (at_ : Int) (B : Option Addr) (m d : Nat) (by_ : List UInt8) (again : Int) (w : World) (h : RdL w (some ⟨b, o, none⟩) n c ls) (hB : Rd w B m d by_) (hf : few ls 60 = true) (hm : m ≤ 1000) (hk : k < n) :
    Calls Try.prog 5 #[.agg #[.slice (some ⟨b, o, none⟩) n c, .int .i64 (k : Int), .int .i64 at_, .slice B m d, .int .i64 again]] w (Yes w) := by
  have hs := small_of_few hf (by omega)
  have hn := h.size
  have hn60 : ls.length ≤ 60 := ((few_iff _ _).1 hf).1
  have hn6 : n ≤ 60 := by omega
  have hcle := h.cle
  have hcap := h.cap
  have hq1 : decide ((1000 : Int) < (m : Int)) = false := by simp; omega
  have hq2 : decide ((k : Int) < 0) = false := by simp
  have hq3 : decide ((n : Int) ≤ (k : Int)) = false := by simp; omega
  obtain ⟨⟨to0, qA, qn, qc, qs⟩, x, hx, ht, c1, c2, c3⟩ := h.at_ hk
  dsimp only at c1 c2 c3
  obtain ⟨x', hx'⟩ : ∃ x', spL x at_ by_ = x' := ⟨_, rfl⟩
  have hto : x'.to = x.to := by rw [← hx']; exact spL_to _ _ _
  have hlen : x'.b.length = x.b.length := by rw [← hx']; exact spL_len _ _ _
  have hxb : x.b.length ≤ 1300 := ((few_iff _ _).1 hf).2 x (List.mem_of_getElem? hx)
  have HX := hidT hx
  have HX' := hidT hx'
  obtain ⟨w0, hw0⟩ : ∃ w0, w.alloc (.cells #[.slice (some ⟨b, o, none⟩) n c, .int .i64 (k : Int), .int .i64 at_, .slice B m d, .int .i64 again] 49) = w0 := ⟨_, rfl⟩
  have hb0 : Below w.heap.size w w0 := by rw [← hw0]; exact nkeep_alloc (Below.refl _ _) _
  have HW0 := hidT hw0
  have HN := hidT hn
  clear hn hn60 hw0 hx hx'
  go_enter Try.func5, Try.ntmps5
  go_wp2_with fail
  rw [HW0.out]
  clear HW0
  with_reducible refine (nshown_any _).mono ?_
  rintro e w1 ⟨rfl, hb1'⟩
  have hb1 := bthen hb0 hb1'
  have h1 := h.below hb1
  go_wp2_with fail
  with_reducible refine (few60 _ _ _ ls _ h1 true hf).mono ?_
  rintro e w2 ⟨rfl, rfl⟩
  have hp := nspoil_in b o n c ls k x at_ B m d by_ w1 h1 (hB.below hb1) hs hk HX.out
  rw [spoilL_eq HX.out, HX'.out] at hp
  clear h1 hb1'
  go_wp2_with fail
  with_reducible refine hp.mono ?_
  rintro e w2 ⟨g1, N1, hN1, rfl, hf1, hb2⟩
  obtain rfl : n = N1 := by rw [List.length_set] at hN1; have := HN.out; omega
  have hb02 := bthen hb1 hb2
  have hsm : Small (ls.set k x') := small_set hs k (by omega)
  have hrM := hf1.rd hN1 (by omega)
  obtain ⟨hg1, us, hgu, hlu, hou⟩ := id hf1
  have hku : k < us.length := by rw [hlu.1]; omega
  obtain ⟨⟨to1, pA, pn, pc, ps⟩, ht'⟩ : ∃ t', us[k]? = some t' := ⟨_, List.getElem?_eq_getElem hku⟩
  have hMk : (ls.set k x')[k]? = some x' := by rw [List.getElem?_set_self (by have := HN.out; omega)]
  have hi' := hlu.2 k _ x' ht' hMk
  obtain ⟨d1, d2, d3⟩ := cellB hgu ht'
  dsimp only at d1 d2 d3
  rw [show to1 = x'.to from hi'.1, hto] at d1
  rw [show ps = x'.sp from hi'.2.1] at d3
  have hrdl := h.below hb02
  obtain ⟨e1, e2, e3⟩ := cells3 (t := ⟨to0, qA, qn, qc, qs⟩) c1 c2 c3 w2 hb02
  dsimp only at e1 e2 e3
  rw [show to0 = x.to from ht.1] at e1
  rw [show qs = x.sp from ht.2.1] at e3
  have KC := fun w' (hb : Below w2.heap.size w2 w') => (⟨(hb.cell (World.block_lt_of_cell? _ _ d1)).trans d1, (hb.cell (World.block_lt_of_cell? _ _ d2)).trans d2, (hb.cell (World.block_lt_of_cell? _ _ d3)).trans d3, (hb.cell (World.block_lt_of_cell? _ _ e1)).trans e1, (hb.cell (World.block_lt_of_cell? _ _ e2)).trans e2, (hb.cell (World.block_lt_of_cell? _ _ e3)).trans e3⟩ : _ ∧ _ ∧ _ ∧ _ ∧ _ ∧ _)
  have HKC := hidT KC
  have k1 := fun w' hb => (KC w' hb).1
  have k2 := fun w' hb => (KC w' hb).2.1
  have k4 := fun w' hb => (KC w' hb).2.2.2.1
  have k5 := fun w' hb => (KC w' hb).2.2.2.2.1
  have R1' : Rd w2 pA pn pc x'.b := hi'.2.2
  have R2' : Rd w2 qA qn qc x.b := ht.2.2.below hb02
  obtain rfl : qn = pn := by have := R1'.1; have := R2'.1; omega
  have L1 := hrM.take (k := k) (by omega)
  rw [set_take] at L1
  have L2 := hrdl.take (k := k) (by omega)
  have L3 := cut_rd' hrM (k := k + 1) (by omega)
  rw [set_drop] at L3
  have L4 := cut_rdA hrdl (k := k + 1) (by omega)
  obtain ⟨X1, hX1⟩ : ∃ X1, (if n = k + 1 then some (⟨g1, 0, none⟩ : Addr) else some ⟨g1, (k + 1) * 3, none⟩) = X1 := ⟨_, rfl⟩
  obtain ⟨X2, hX2⟩ : ∃ X2, (if c = k + 1 then some (⟨b, o, none⟩ : Addr) else some ⟨b, o + (k + 1) * 3, none⟩) = X2 := ⟨_, rfl⟩
  rw [hX1] at L3
  rw [hX2] at L4
  have C1 := hidT (fun w' (hb : Below w2.heap.size w2 w') => rsame_yes _ _ _ _ _ _ _ w' (L1.below hb) (L2.below hb))
  have C2 := hidT (fun w' (hb : Below w2.heap.size w2 w') => rsame_yes _ _ _ _ _ _ _ w' (L3.below hb) (L4.below hb))
  have z1 : (0 : Int) ≤ (k : Int) := by omega
  have z2 : (k : Int) ≤ (n : Int) := by omega
  have z3 : (k : Int) ≤ (c : Int) := by omega
  have z4 : (0 : Int) ≤ (k : Int) + 1 := by omega
  have z5 : (k : Int) + 1 ≤ (n : Int) := by omega
  have z6 : IntKind.i64.wrap ((k : Int) + 1) = (k : Int) + 1 := IntWalk.i64_in _ (by omega)
  have z7 : ((k : Int) + 1).toNat = k + 1 := by omega
  have z8 : (k : Int) < (n : Int) := by omega
  have R1 := hidT R1'
  have R2 := hidT R2'
  have HRM := hidT hrM
  have HRL := hidT hrdl
  have hqn : qn ≤ 1300 := by have := R2'.1; omega
  clear hp hN1 hf1 hgu hlu hou hku ht' hi' d1 d2 d3 e1 e2 e3 c1 c2 c3 ht KC L1 L2 L3 L4 hrM hrdl R1' R2'
  go_wp2_with fail
  go_region_held (fun w' => Below w2.heap.size w2 w') (first | exact (Below.refl _ _).drew | exact hb4 | exact hb3) (first
    | (go_at_call 19; ((with_reducible refine (C1.out _ (Below.refl _ _).drew).mono ?_); rintro e3 w3 ⟨rfl, hb3'⟩; have hb3 : Below w2.heap.size w2 w3 := undrew hb3'))
    | (go_at_call 19; ((with_reducible refine (C2.out w3 hb3).mono ?_); rintro e4 w4 ⟨rfl, hb4'⟩; have hb4 : Below w2.heap.size w2 w4 := bthen hb3 hb4')))
  have hb04 := bthen hb02 hb4
  have hrM4 := HRM.out.below hb4
  have hp2 := nspoil_in g1 0 n n _ k x' again B m d by_ w4 hrM4 (hB.below hb04) hsm hk hMk
  rw [spoilL_eq hMk] at hp2
  clear k1 k2 k4 k5
  go_wp2_with fail
  with_reducible refine hp2.mono ?_
  rintro e w5 ⟨g5, N5, hN5, rfl, hf5, hb5⟩
  obtain rfl : n = N5 := by rw [List.length_set, List.length_set] at hN5; have := HN.out; omega
  have hr5 := hf5.rd hN5 (by omega)
  have hb25 := bthen hb4 hb5
  have hb05 := bthen hb02 hb25
  obtain ⟨f1, f2, f3, f4, f5, f6⟩ := HKC.out w5 hb25
  clear hp2 hN5 hf5 f1 f2 f4 f5
  by_cases hsp' : x'.sp = true
  · rw [hsp'] at f3
    rw [spL_sp hsp', set_self hMk] at hr5
    have hS := rsame_yes _ _ _ _ _ _ _ w5 hr5 (hrM4.below hb5)
    clear hr5
    go_wp2_with fail
    with_reducible refine hS.mono ?_
    rintro e w6 ⟨rfl, hb6⟩
    have hb26 := bthen hb25 hb6
    have hb06 := bthen hb02 hb26
    clear f3 f6 hS
    obtain ⟨f1, f2, f3, f4, f5, f6⟩ := HKC.out w6 hb26
    rw [hsp'] at f3
    by_cases hsp : x.sp = true
    · rw [hsp] at f6
      have ex : x' = x := by rw [← HX'.out, spL_sp hsp]
      have hr6 := HRM.out.below hb26
      rw [ex, set_self HX.out] at hr6
      have hS2 := rsame_yes _ _ _ _ _ _ _ w6 hr6 (HRL.out.below hb26)
      clear hr6 ex f1 f2 f4 f5 hsp hsp'
      go_wp2_with fail
      with_reducible refine hS2.mono ?_
      rintro e w7 ⟨rfl, hb7⟩
      clear hS2
      go_wp2
      go_ret
      exact ⟨rfl, bthen hb06 hb7⟩
    · have hsp0 : x.sp = false := by simpa using hsp
      rw [hsp0] at f6
      have hdid : x'.b = Crc.spoil x.b at_ by_ ∧ x'.b ≠ x.b := by
        have := spL_did (at_ := at_) (by_ := by_) hsp0 (by rw [HX'.out]; exact hsp')
        rwa [HX'.out] at this
      have HDID := hidT hdid
      have Q1 := hidT (R1.out.below hb26)
      have Q2 := hidT (R2.out.below hb26)
      clear hdid f1 f4 hsp hsp0 hsp' hb25 hb5 hb4 hb3 hrM4
      obtain ⟨W0, rfl⟩ : ∃ W0, W0 = w6 := ⟨_, rfl⟩
      go_wp2
      go_loopw [13, 14, 15] (fun v u i wx => ∃ (j : Nat) (fi la : Int), j ≤ qn ∧ i = .int .i64 j ∧ v = .int .i64 fi ∧ u = .int .i64 la ∧ Hid ((fi = -1 ∧ la = -1 ∧ x'.b.take j = x.b.take j) ∨ ∃ f l : Nat, fi = f ∧ la = l ∧ f < j ∧ l < j ∧ Df x'.b x.b f ∧ Df x'.b x.b l) ∧ ∃ kk, wx = W0.drewN kk) (fun _ _ i _ => qn - (intOf i).toNat)
      case atStart => exact ⟨0, -1, -1, Nat.zero_le _, rfl, rfl, rfl, .inl ⟨rfl, rfl, rfl⟩, 0, rfl⟩
      case round =>
        obtain ⟨j, fi, la, hj, rfl, rfl, rfl, HH, kk, rfl⟩ := hrel
        by_cases hjq : j < qn
        · obtain ⟨b1, o1, rfl, hc1⟩ := Q1.out.at_ (by omega)
          obtain ⟨b2, o2, rfl, hc2⟩ := Q2.out.at_ (by omega)
          obtain ⟨yv, hyv, cy⟩ := hc1 j hjq
          obtain ⟨xv, hxv, cx⟩ := hc2 j hjq
          clear hc1 hc2
          have r1 : (0 : Int) ≤ (j : Int) := by omega
          have r2 : (j : Int) < (qn : Int) := by omega
          by_cases hxy : yv = xv
          · subst hxy
            have HH2 : Hid ((fi = -1 ∧ la = -1 ∧ x'.b.take (j + 1) = x.b.take (j + 1)) ∨ ∃ f l : Nat, fi = f ∧ la = l ∧ f < j + 1 ∧ l < j + 1 ∧ Df x'.b x.b f ∧ Df x'.b x.b l) := by
              rcases HH.out with ⟨h1, h2, h3⟩ | ⟨f, l, h1, h2, h3, h4, h5, h6⟩
              · exact .inl ⟨h1, h2, by rw [take_snocL hyv, take_snocL hxv, h3]⟩
              · exact .inr ⟨f, l, h1, h2, by omega, by omega, h5, h6⟩
            clear hyv hxv HH
            go_wp2
            go_quiet (fail)
            go_wp2
            exact ⟨⟨j + 1, fi, la, by omega, by go_num, rfl, rfl, HH2, _, rfl⟩, by simp [intOf]; omega⟩
          · have hdf : Df x'.b x.b j := by
              unfold Df
              rw [hyv, hxv]
              intro e
              injection e with e
              exact hxy e
            have HDF := hidT hdf
            have hne : ¬ (yv.toNat : Int) = (xv.toNat : Int) := fun e => hxy (UInt8.toNat_inj.1 (by omega))
            have z9 : ((yv.toNat : Int) != (xv.toNat : Int)) = true := by simpa using hne
            have z10 : ((yv.toNat : Int) == (xv.toNat : Int)) = false := by simpa using hne
            clear hyv hxv hdf hne hxy
            rcases HH.out with ⟨rfl, rfl, _⟩ | ⟨f, l, rfl, rfl, h3, h4, h5, h6⟩
            · clear HH
              go_wp2
              go_quiet (fail)
              go_wp2
              exact ⟨⟨j + 1, j, j, by omega, by go_num, rfl, rfl, .inr ⟨j, j, rfl, rfl, by omega, by omega, HDF.out, HDF.out⟩, _, rfl⟩, by simp [intOf]; omega⟩
            · have H5 := hidT h5
              have z11 : decide ((f : Int) < 0) = false := by simp
              clear HH h5 h6
              go_wp2
              go_quiet (fail)
              go_wp2
              exact ⟨⟨j + 1, f, j, by omega, by go_num, rfl, rfl, .inr ⟨f, j, rfl, rfl, by omega, by omega, H5.out, HDF.out⟩, _, rfl⟩, by simp [intOf]; omega⟩
        · obtain rfl : qn = j := by omega
          have hl1 := Q1.out.1
          have hl2 := Q2.out.1
          rcases HH.out with ⟨rfl, rfl, h3⟩ | ⟨f, l, rfl, rfl, h3, h4, h5, h6⟩
          · rw [List.take_of_length_le (by omega), List.take_of_length_le (by omega)] at h3
            exact absurd h3 HDID.out.2
          · rw [HDID.out.1] at h5 h6
            have h7 := df_near h5 h6
            have z12 : wrap64 ((l : Int) - (f : Int)) = (l : Int) - (f : Int) := IntWalk.wrap64_in _ (by omega)
            have z13 : decide ((l : Int) - (f : Int) ≤ 3) = true := by simpa using h7
            have z14 : decide ((0 : Int) ≤ (f : Int)) = true := by simp
            clear h5 h6 HH hl1 hl2
            go_wp2
            go_ret
            exact ⟨rfl, bthen hb06 (drawn_below _ _)⟩
  · have hsp0 : x'.sp = false := by simpa using hsp'
    rw [hsp0] at f3
    have ex : x' = x := by
      have := HX'.out
      rw [← this]
      exact spL_not (by rw [this]; exact hsp0)
    rw [← ex, hsp0] at f6
    have hr6 := HRM.out.below hb25
    rw [ex, set_self HX.out] at hr6
    have hS2 := rsame_yes _ _ _ _ _ _ _ w5 hr6 (HRL.out.below hb25)
    clear hr6 ex hsp' hsp0 hr5
    go_wp2_with fail
    with_reducible refine hS2.mono ?_
    rintro e w7 ⟨rfl, hb7⟩
    clear hS2
    go_wp2
    go_ret
    exact ⟨rfl, bthen hb05 hb7⟩
end Go.Proofs.Ytenefjkgnkelgaa
