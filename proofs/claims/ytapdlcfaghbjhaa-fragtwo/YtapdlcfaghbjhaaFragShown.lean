/- Chapter 6's examples, walked. -/
import Derived.Test.YtapdlcfaghbjhaaFrag7
import Derived.Lib.SlBytesConst
set_option maxRecDepth 100000
namespace Go.Proofs.Ytapdlcfaghbjhaa
open Go.RowKit
set_option linter.unusedVariables false

/-- The pieces, for every mtu. -/
def cutI (l : List UInt8) (m : Int) : List (List UInt8) := if m < 1 then [] else cutOf l m.toNat
theorem cut_any (A : Option Addr) (n c : Nat) (l : List UInt8) (m : Int) (w : World) (h : Rd w A n c l) (hn : n ≤ 65536) (hm : m ≤ 9223372036854775807) :
    Calls Try.prog 16 #[.slice A n c, .int .i64 m] w (GivesP w (cutI l m)) := by
  unfold cutI
  by_cases h1 : m < 1
  · rw [if_pos h1]; exact cut_none A n c m w h1
  · rw [if_neg h1]
    have := cut_some A n c l m.toNat w h hn (by omega) (by omega)
    rwa [Int.toNat_of_nonneg (by omega)] at this
theorem rcut_any (A : Option Addr) (n c : Nat) (l : List UInt8) (m : Int) (w : World) (h : Rd w A n c l) (hn : n ≤ 65536) (hm : m ≤ 9223372036854775807) :
    Calls Try.prog 17 #[.slice A n c, .int .i64 m] w (GivesP w (cutI l m)) := by
  unfold cutI
  by_cases h1 : m < 1
  · rw [if_pos h1]; exact rcut_none A n c m w h1
  · rw [if_neg h1]
    have := rcut_some A n c l m.toNat w h hn (by omega) (by omega)
    rwa [Int.toNat_of_nonneg (by omega)] at this
theorem fstr_list (l : List UInt8) : (str l).toList = l := by rw [ByteArray.toList_eq]; rfl


theorem GivesP.open_ {w w' : World} {ls : List (List UInt8)} {e : Ending} (h : GivesP w ls e w') (k : Nat) (hk : ls.length = k) : ∃ A c rs, e = .returned (.slice A k c) ∧ RdB w' A k c rs ∧ rs.map Bw.b = ls ∧ Below w.heap.size w w' := by
  obtain ⟨A, n, c, rs, rfl, hr, hb, hbel⟩ := h
  have := hr.size
  rw [← List.length_map (f := Bw.b), hb, hk] at this
  subst this
  exact ⟨A, c, rs, rfl, hr, hb, hbel⟩
theorem blk_lt {w : World} {g : Nat} {o : Obj} (h : w.heap[g]? = some o) : g < w.heap.size := by
  rcases Nat.lt_or_ge g w.heap.size with hlt | hge
  · exact hlt
  · rw [Array.getElem?_eq_none hge] at h; cases h
theorem keepH {w w' : World} {g : Nat} {o : Obj} (h : w.heap[g]? = some o) (hb : Below w.heap.size w w') : w'.heap[g]? = some o := (hb.block _ (blk_lt h)).trans h
/-- The three pieces of the example, as they are laid. -/
theorem lit3 (w : World) (k : Nat) (hk : w.heap.size = k) :
    RdB ((((w.alloc (.cells #[.int .u8 97, .int .u8 98] 5 (2, 3))).alloc (.cells #[.int .u8 99, .int .u8 100] 5 (2, 3))).alloc (.cells #[.int .u8 101] 5 (1, 2))).alloc (.cells #[.slice (some ⟨k, 0, none⟩) 2 2, .slice (some ⟨k + 1, 0, none⟩) 2 2, .slice (some ⟨k + 1 + 1, 0, none⟩) 1 1] 22)) (some ⟨k + 1 + 1 + 1, 0, none⟩) 3 3 [⟨some ⟨k, 0, none⟩, 2, 2, [97, 98]⟩, ⟨some ⟨k + 1, 0, none⟩, 2, 2, [99, 100]⟩, ⟨some ⟨k + 1 + 1, 0, none⟩, 1, 1, [101]⟩] ∧
    Below w.heap.size w ((((w.alloc (.cells #[.int .u8 97, .int .u8 98] 5 (2, 3))).alloc (.cells #[.int .u8 99, .int .u8 100] 5 (2, 3))).alloc (.cells #[.int .u8 101] 5 (1, 2))).alloc (.cells #[.slice (some ⟨k, 0, none⟩) 2 2, .slice (some ⟨k + 1, 0, none⟩) 2 2, .slice (some ⟨k + 1 + 1, 0, none⟩) 1 1] 22)) := by
  subst hk
  have r1 := Rd.litAt w 5 (2, 3) #[.int .u8 97, .int .u8 98] [97, 98] rfl 2 rfl (by simp only [maxLen]; omega) w.heap.size rfl
  have r2 := Rd.litAt (w.alloc (.cells #[.int .u8 97, .int .u8 98] 5 (2, 3))) 5 (2, 3) #[.int .u8 99, .int .u8 100] [99, 100] rfl 2 rfl (by simp only [maxLen]; omega) (w.heap.size + 1) (by rw [size_alloc])
  have r3 := Rd.litAt ((w.alloc (.cells #[.int .u8 97, .int .u8 98] 5 (2, 3))).alloc (.cells #[.int .u8 99, .int .u8 100] 5 (2, 3))) 5 (1, 2) #[.int .u8 101] [101] rfl 1 rfl (by simp only [maxLen]; omega) (w.heap.size + 1 + 1) (by simp only [size_alloc])
  have r4 := RdV.lit (((w.alloc (.cells #[.int .u8 97, .int .u8 98] 5 (2, 3))).alloc (.cells #[.int .u8 99, .int .u8 100] 5 (2, 3))).alloc (.cells #[.int .u8 101] 5 (1, 2))) 22 (0, 0) #[.slice (some ⟨w.heap.size, 0, none⟩) 2 2, .slice (some ⟨w.heap.size + 1, 0, none⟩) 2 2, .slice (some ⟨w.heap.size + 1 + 1, 0, none⟩) 1 1] [.slice (some ⟨w.heap.size, 0, none⟩) 2 2, .slice (some ⟨w.heap.size + 1, 0, none⟩) 2 2, .slice (some ⟨w.heap.size + 1 + 1, 0, none⟩) 1 1] rfl 3 rfl (by simp only [maxLen]; omega) (w.heap.size + 1 + 1 + 1) (by simp only [size_alloc])
  refine ⟨⟨r4, fun r hr => ?_⟩, bthen (nkeep w _) (bthen (nkeep _ _) (bthen (nkeep _ _) (nkeep _ _)))⟩
  simp only [List.mem_cons, List.not_mem_nil, or_false] at hr
  rcases hr with rfl | rfl | rfl
  · exact ((r1.alloc _).alloc _).alloc _
  · exact (r2.alloc _).alloc _
  · exact r3.alloc _

set_option maxRecDepth 100000 in
set_option maxHeartbeats 4000000 in
theorem fshown_any (w : World) : Calls Try.prog 10 #[] w (Yes w) := by
  have kc := fun (w : World) (C : Array Value) (n c : Nat) => Lib.run_convert_bytes_const (P := Try.prog) w 22 5 C n c Try.underlying22 Try.underlying5
  have p1 := cut_any (some ⟨w.heap.size, 0, none⟩) 5 5 [97, 98, 99, 100, 101] 2 (w.alloc (.cells #[.int .u8 97, .int .u8 98, .int .u8 99, .int .u8 100, .int .u8 101] 5 (5, 6))) (Rd.litAt w _ _ _ [97, 98, 99, 100, 101] rfl 5 rfl (by simp only [maxLen]; omega) _ rfl) (by omega) (by omega)
  have hb1 := nkeep w (.cells #[.int .u8 97, .int .u8 98, .int .u8 99, .int .u8 100, .int .u8 101] 5 (5, 6))
  go_enter Try.func10, Try.ntmps10
  go_wp2_with fail
  with_reducible refine p1.mono ?_
  intro e w2 hG2
  obtain ⟨A2, c2, rs2, rfl, hR2, hL2, hb2'⟩ := hG2.open_ 3 (by decide)
  have hb2 := bthen hb1 hb2'
  clear p1 hG2 hb1 hb2'
  have p2 := cut_any none 0 0 [] 2 w2 (Rd.nil_ _) (by omega) (by omega)
  go_wp2_with fail
  with_reducible refine p2.mono ?_
  intro e w3 hG3
  obtain ⟨A3, c3, rs3, rfl, hR3, hL3, hb3⟩ := hG3.open_ 1 (by decide)
  have hb03 := bthen hb2 hb3
  clear p2 hG3
  have p3 := add_any none_ none 0 0 9 0 2 (some ⟨w3.heap.size, 0, none⟩) 2 2 [97, 98] (w3.alloc (.cells #[.int .u8 97, .int .u8 98] 5 (2, 3))) (Rd.nil_ _) (Rd.litAt w3 _ _ _ [97, 98] rfl 2 rfl (by simp only [maxLen]; omega) _ rfl) (by omega) (by omega)
  rw [show addOf none_ 9 0 2 [97, 98] = ⟨⟨9, 2, 1, [97, 98]⟩, [], false, 0⟩ from rfl] at p3
  dsimp only [none_] at p3
  go_wp2_with fail
  with_reducible refine p3.mono ?_
  rintro e w4 ⟨A4, n4, c4, B4, m4, d4, rfl, hr4, hs4, hb4'⟩
  dsimp only at hr4 hs4 ⊢
  have hb4 := bthen (nkeep w3 (.cells #[.int .u8 97, .int .u8 98] 5 (2, 3))) hb4'
  have hb04 := bthen hb03 hb4
  clear p3 hb4'
  have x4 := alloc_at w4 (.cells #[.int .i64 9, .int .i64 2, .int .i64 1, .slice A4 n4 c4] 24) _ rfl
  have hn4 : n4 = 2 := hr4.1.symm
  have p4 := add_any ⟨9, 2, 1, [97, 98]⟩ A4 n4 c4 10 1 2 (some ⟨w4.heap.size + 1, 0, none⟩) 1 1 [99] ((w4.alloc (.cells #[.int .i64 9, .int .i64 2, .int .i64 1, .slice A4 n4 c4] 24)).alloc (.cells #[.int .u8 99] 5 (1, 2))) ((hr4.alloc _).alloc _) (Rd.litAt _ _ _ _ [99] rfl 1 rfl (by simp only [maxLen]; omega) _ (by rw [size_alloc])) (by omega) (by omega)
  rw [show addOf ⟨9, 2, 1, [97, 98]⟩ 10 1 2 [99] = ⟨none_, [97, 98, 99], true, 0⟩ from by decide] at p4
  dsimp only [none_] at p4
  clear hn4
  have kc4 := kc (w4.alloc (.cells #[.int .i64 9, .int .i64 2, .int .i64 1, .slice A4 n4 c4] 24)) #[.int .u8 99] 1 1
  rw [size_alloc] at kc4
  go_wp2_with fail
  with_reducible refine p4.mono ?_
  rintro e w6 ⟨A6, n6, c6, B6, m6, d6, rfl, hr6, hs6, hb6'⟩
  dsimp only at hr6 hs6 ⊢
  have hb6 := bthen (nkeep w4 (.cells #[.int .i64 9, .int .i64 2, .int .i64 1, .slice A4 n4 c4] 24)) (bthen (nkeep _ (.cells #[.int .u8 99] 5 (1, 2))) hb6')
  have hb06 := bthen hb04 hb6
  have x6 := keepH x4 (bthen (nkeep _ (.cells #[.int .u8 99] 5 (1, 2))) hb6')
  clear p4 hb6' x4
  clear kc4
  have x6' := (alloc_old w6 (.cells #[.int .i64 0, .int .i64 0, .int .i64 0, .slice A6 n6 c6] 24) _ (blk_lt x6)).trans x6
  obtain ⟨k0, k1, k2, k3⟩ := cells4 x6'
  have z6 := alloc_at w6 (.cells #[.int .i64 0, .int .i64 0, .int .i64 0, .slice A6 n6 c6] 24) _ rfl
  have hr4' := hr4.below hb6
  have hn4 : n4 = 2 := hr4.1.symm
  have p5 := add_any ⟨9, 2, 1, [97, 98]⟩ A4 n4 c4 10 0 2 (some ⟨w6.heap.size + 1, 0, none⟩) 1 1 [99] ((w6.alloc (.cells #[.int .i64 0, .int .i64 0, .int .i64 0, .slice A6 n6 c6] 24)).alloc (.cells #[.int .u8 99] 5 (1, 2))) ((hr4'.alloc _).alloc _) (Rd.litAt _ _ _ _ [99] rfl 1 rfl (by simp only [maxLen]; omega) _ (by rw [size_alloc])) (by omega) (by omega)
  rw [show addOf ⟨9, 2, 1, [97, 98]⟩ 10 0 2 [99] = ⟨⟨9, 2, 1, [97, 98]⟩, [], false, 2⟩ from by decide] at p5
  dsimp only at p5
  have kc5 := kc (w6.alloc (.cells #[.int .i64 0, .int .i64 0, .int .i64 0, .slice A6 n6 c6] 24)) #[.int .u8 99] 1 1
  rw [size_alloc] at kc5
  clear hn4
  go_wp2_with fail
  with_reducible refine p5.mono ?_
  rintro e w8 ⟨A8, n8, c8, B8, m8, d8, rfl, hr8, hs8, hb8'⟩
  dsimp only at hr8 hs8 ⊢
  have hb8 := bthen (nkeep w6 (.cells #[.int .i64 0, .int .i64 0, .int .i64 0, .slice A6 n6 c6] 24)) (bthen (nkeep _ (.cells #[.int .u8 99] 5 (1, 2))) hb8')
  have hb08 := bthen hb06 hb8
  have x8 := keepH x6 hb8
  have z8 := keepH z6 (bthen (nkeep _ (.cells #[.int .u8 99] 5 (1, 2))) hb8')
  clear p5 hb8' x6 x6' z6 kc5 k0 k1 k2 k3
  have hw9 := nkeep w8 (.cells #[.int .i64 9, .int .i64 2, .int .i64 1, .slice A8 n8 c8] 24)
  obtain ⟨hR9, hb9⟩ := lit3 (w8.alloc (.cells #[.int .i64 9, .int .i64 2, .int .i64 1, .slice A8 n8 c8] 24)) (w8.heap.size + 1) (by rw [size_alloc])
  have hb28 := bthen hb3 (bthen hb4 (bthen hb6 (bthen hb8 (bthen hw9 hb9))))
  have q1 := rpieces_any A2 3 c2 rs2 _ 3 3 _ _ (hR2.below hb28) hR9 true (by rw [hL2]; show decide (cutI [97, 98, 99, 100, 101] 2 = [[97, 98], [99, 100], [101]]) = true; decide)
  have hb09 := bthen hb08 (bthen hw9 hb9)
  have kd1 := kc (w8.alloc (.cells #[.int .i64 9, .int .i64 2, .int .i64 1, .slice A8 n8 c8] 24)) #[.int .u8 97, .int .u8 98] 2 2
  have kd2 := kc ((w8.alloc (.cells #[.int .i64 9, .int .i64 2, .int .i64 1, .slice A8 n8 c8] 24)).alloc (.cells #[.int .u8 97, .int .u8 98] 5 (2, 3))) #[.int .u8 99, .int .u8 100] 2 2
  have kd3 := kc (((w8.alloc (.cells #[.int .i64 9, .int .i64 2, .int .i64 1, .slice A8 n8 c8] 24)).alloc (.cells #[.int .u8 97, .int .u8 98] 5 (2, 3))).alloc (.cells #[.int .u8 99, .int .u8 100] 5 (2, 3))) #[.int .u8 101] 1 1
  simp only [size_alloc] at kd1 kd2 kd3
  go_wp2_with fail
  with_reducible refine q1.mono ?_
  rintro e w11 ⟨rfl, hb11⟩
  have hb811 := bthen hw9 (bthen hb9 hb11)
  have hb611 := bthen hb8 hb811
  have hb011 := bthen hb08 hb811
  have hb311 := bthen hb4 (bthen hb6 hb611)
  have x11 := keepH x8 hb811
  have z11 := keepH z8 hb811
  obtain ⟨b3, o3, r3, rfl, hx3, hr3, hc3⟩ := hR3.at_ (k := 0) (by omega)
  have hc311 := hc3 w11 hb311
  have hr3n : r3.n = 0 := by
    have h1 := hr3.1
    have h2 : (rs3.map Bw.b)[0]? = some r3.b := by rw [List.getElem?_map, hx3]; rfl
    rw [hL3] at h2
    have h3 : r3.b = [] := by
      have h4 : (cutI [] 2)[0]? = some [] := by decide
      rw [h4] at h2
      injection h2 with h2
      exact h2.symm
    rw [h3] at h1
    exact h1.symm
  rw [hr3n] at hc311
  rw [Nat.add_zero] at hc311
  obtain ⟨k0, k1, k2, k3⟩ := cells4 x11
  obtain ⟨j0, j1, j2, j3⟩ := cells4 z11
  have hn6 := hr6.1
  have st := strs hs6 w11 hb611
  have zz := fstr_list [97, 98, 99]
  have m1 := many_any 5 2 w11 ⟨by omega, by omega⟩ ⟨by omega, by omega⟩
  rw [show manyI 5 2 = 3 from by decide] at m1
  have m2 := many_any 0 2 w11 ⟨by omega, by omega⟩ ⟨by omega, by omega⟩
  rw [show manyI 0 2 = 1 from by decide] at m2
  have s1 := fsame_any ⟨0, 0, 0, []⟩ ⟨0, 0, 0, []⟩ A6 n6 c6 none 0 0 w11 (hr6.below hb611) (Rd.nil_ _) true (by decide)
  dsimp only at s1
  clear q1 x8 z8 kd1 kd2 kd3 kc hR9
  go_wp2_with fail
  with_reducible refine m1.mono ?_
  rintro e w' ⟨rfl, hww⟩
  obtain rfl : w11 = w' := hww.symm
  clear hww m1
  go_wp2_with fail
  with_reducible refine m2.mono ?_
  rintro e w' ⟨rfl, hww⟩
  obtain rfl : w11 = w' := hww.symm
  clear hww m2
  go_wp2_with fail
  with_reducible refine s1.mono ?_
  rintro e w12 ⟨rfl, hb12⟩
  have x12 := keepH x11 hb12
  have z12 := keepH z11 hb12
  have s2 := fsame_any ⟨9, 2, 1, [97, 98]⟩ ⟨0, 0, 0, []⟩ A4 n4 c4 A6 n6 c6 w12 (hr4.below (bthen hb6 (bthen hb611 hb12))) (hr6.below (bthen hb611 hb12)) false (by decide)
  dsimp only at s2
  clear s1 k0 k1 k2 k3 j0 j1 j2 j3 x11 z11 hc311 st
  obtain ⟨k0, k1, k2, k3⟩ := cells4 x12
  obtain ⟨j0, j1, j2, j3⟩ := cells4 z12
  go_wp2_with fail
  with_reducible refine s2.mono ?_
  rintro e w13 ⟨rfl, hb13⟩
  go_wp2
  go_ret
  exact ⟨rfl, bthen hb011 (bthen hb12 hb13)⟩
end Go.Proofs.Ytapdlcfaghbjhaa
