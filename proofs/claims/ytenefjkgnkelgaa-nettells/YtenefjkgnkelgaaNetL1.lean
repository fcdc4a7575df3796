/- The law NetTells, walked. (Written by wip/gen/netl1.py.) -/
import Derived.Test.YtenefjkgnkelgaaNet12
import Derived.Test.YtenefjkgnkelgaaNetOpen
set_option maxRecDepth 100000
namespace Go.Proofs.Ytenefjkgnkelgaa
open Go.RowKit Go.ChangeShapes Go.WideShapes Go.ChangeAt
set_option linter.unusedVariables false

/-- What the program and the document make of a place in a row. -/
def Both (A : Option Addr) (n c : Nat) (ls : List Lt) (i q : Int) (B : Option Addr) (m d : Nat) (bb : List UInt8) (X : Lt) (Rg Ru Rs : List Lt) (code : Int) : Prop :=
  Rg.length ≤ 65536 ∧ Ru.length ≤ 65536 ∧ Rs.length ≤ 65536 ∧
  (∀ w, RdL w A n c ls → Calls Try.prog 11 #[.slice A n c, .int .i64 i] w (FreshG w 29 X Rg code)) ∧
  (∀ w, RdL w A n c ls → Calls Try.prog 12 #[.slice A n c, .int .i64 i] w (RowG w X Rg code)) ∧
  (∀ w, RdL w A n c ls → Calls Try.prog 13 #[.slice A n c, .int .i64 i] w (FreshC w 29 Rg code)) ∧
  (∀ w, RdL w A n c ls → Calls Try.prog 14 #[.slice A n c, .int .i64 i] w (RowC w Rg code)) ∧
  (∀ w, RdL w A n c ls → Calls Try.prog 15 #[.slice A n c, .int .i64 i] w (FreshC w 29 Ru code)) ∧
  (∀ w, RdL w A n c ls → Calls Try.prog 16 #[.slice A n c, .int .i64 i] w (RowC w Ru code)) ∧
  (∀ w, RdL w A n c ls → Rd w B m d bb → Calls Try.prog 17 #[.slice A n c, .int .i64 i, .int .i64 q, .slice B m d] w (FreshC w 29 Rs code)) ∧
  (∀ w, RdL w A n c ls → Rd w B m d bb → Calls Try.prog 18 #[.slice A n c, .int .i64 i, .int .i64 q, .slice B m d] w (RowC w Rs code))
theorem both_any (A : Option Addr) (n c : Nat) (ls : List Lt) (i q : Int) (B : Option Addr) (m d : Nat) (bb : List UInt8) (w0 : World) (h0 : RdL w0 A n c ls) (hs : Small ls) (hn : ls.length < 65536) (hm : m ≤ 65536) (hq : q ≤ 9223372036854775807) :
    ∃ X Rg Ru Rs code, Both A n c ls i q B m d bb X Rg Ru Rs code := by
  have hsz := h0.size
  by_cases hi : 0 ≤ i ∧ i < n
  · obtain ⟨hi0, hi1⟩ := hi
    obtain ⟨k, rfl⟩ := Int.eq_ofNat_of_zero_le hi0
    obtain ⟨b, o, rfl⟩ := h0.addr (by omega)
    obtain ⟨x, hx⟩ : ∃ x, ls[k]? = some x := ⟨_, List.getElem?_eq_getElem (by omega)⟩
    exact ⟨x, ls.take k ++ ls.drop (k + 1), ls ++ [x], spoilL ls k x q bb, 0, (hs.cut k).1, by simp; omega, by rw [spoilL_length]; omega,
      fun w h => give_in b o n c ls k x w h hs (by omega) hx, fun w h => rgive_in b o n c ls k x w h (by omega) (by omega) hx,
      fun w h => drop_in b o n c ls k w h hs (by omega), fun w h => rdrop_in b o n c ls k w h (by omega) (by omega),
      fun w h => dup_in b o n c ls k x w h hs hn (by omega) hx, fun w h => rdup_in b o n c ls k x w h (by omega) (by omega) hx,
      fun w h hB => nspoil_in b o n c ls k x q B m d bb w h hB hs (by omega) hx, fun w h hB => rnspoil_in b o n c ls k x q B m d bb w h hB hs hm hq (by omega) hx⟩
  · exact ⟨⟨0, [], false⟩, ls, ls, ls, 7, by omega, by omega, by omega,
      fun w h => give_out A n c ls i w h hs hi, fun w h => rgive_out A n c ls i w h hi,
      fun w h => drop_out A n c ls i w h hs hi, fun w h => rdrop_out A n c ls i w h hi,
      fun w h => dup_out A n c ls i w h hs hi, fun w h => rdup_out A n c ls i w h hi,
      fun w h _ => nspoil_out A n c ls i q B m d w h hs hi, fun w h _ => rnspoil_out A n c ls i q B m d w h hi⟩

set_option maxRecDepth 100000 in
set_option maxHeartbeats 8000000 in
theorem ntells_in (A : Option Addr) (n c : Nat) (ls : List Lt) (A' : Option Addr) (n' c' : Nat) (lo : List Lt) (i q : Int) (B : Option Addr) (m d : Nat) (bb : List UInt8) (w : World) (h : RdL w A n c ls) (ho : RdL w A' n' c' lo) (hB : Rd w B m d bb) (hf : few ls 60 = true) (hf' : few lo 60 = true) (hm : m ≤ 1000) (hq : q ≤ 9223372036854775807) :
    Calls Try.prog 3 #[.agg #[.slice A n c, .slice A' n' c', .int .i64 i, .int .i64 q, .slice B m d]] w (Yes w) := by
  have hs := small_of_few hf (by omega)
  have hn := h.size
  have hn60 : ls.length ≤ 60 := ((few_iff _ _).1 hf).1
  have hbl := hB.1
  have hq1 : decide ((1000 : Int) < (m : Int)) = false := by simp; omega
  obtain ⟨X, Rg, Ru, Rs, code, l1, l2, l3, G1, G2, D1, D2, U1, U2, S1, S2⟩ := both_any A n c ls i q B m d bb w h hs (by omega) (by omega) hq
  have HB := hidT (And.intro G1 (And.intro G2 (And.intro D1 (And.intro D2 (And.intro U1 (And.intro U2 (And.intro S1 S2)))))))
  clear G1 G2 D1 D2 U1 U2 S1 S2
  obtain ⟨w0, hw0⟩ : ∃ w0, w.alloc (.cells #[.slice A n c, .slice A' n' c', .int .i64 i, .int .i64 q, .slice B m d] 25) = w0 := ⟨_, rfl⟩
  have b0 : Below w.heap.size w w0 := by rw [← hw0]; exact nkeep_alloc (Below.refl _ _) _
  have HW0 := hidT hw0
  clear hw0
  go_enter Try.func3, Try.ntmps3
  go_wp2_with fail
  rw [HW0.out]
  clear HW0
  with_reducible refine (nshown_any _).mono ?_
  rintro e w1 ⟨rfl, b1⟩
  have h1 := h.below (bthen b0 b1)
  have ho1 := ho.below (bthen b0 b1)
  go_wp2_with fail
  with_reducible refine (few60 _ _ _ ls _ h1 true hf).mono ?_
  rintro e w2 ⟨rfl, rfl⟩
  go_wp2_with fail
  with_reducible refine (few60 _ _ _ lo _ ho1 true hf').mono ?_
  rintro e w2 ⟨rfl, rfl⟩
  clear h1 ho1
  have hc := HB.out.1 w1 (h.below (bthen b0 b1))
  go_wp2_with fail
  with_reducible refine hc.mono ?_
  rintro e w2 ⟨A2, n2, c2, g2, N2, hN2, rfl, r2, f2, b2⟩
  clear hc
  have L2 := f2.rd hN2 (by omega)
  clear f2 hN2
  obtain ⟨w3, hw3⟩ : ∃ w3, w2.alloc (.cells #[.int .i64 X.to, .slice A2 n2 c2, .bool X.sp] 29) = w3 := ⟨_, rfl⟩
  have b3 : Below w2.heap.size w2 w3 := by rw [← hw3]; exact nkeep_alloc (Below.refl _ _) _
  have x3 : w3.heap[w2.heap.size]? = some (.cells #[.int .i64 X.to, .slice A2 n2 c2, .bool X.sp] 29 (0, 0)) := by rw [← hw3]; exact alloc_at _ _ _ rfl
  have HW3 := hidT hw3
  have HX3 := hidT x3
  clear hw3 x3
  have hc := HB.out.2.1 w3 (h.below (bthen b0 (bthen b1 (bthen b2 b3))))
  go_wp2_with fail
  rw [HW3.out]
  with_reducible refine hc.mono ?_
  rintro e w4 ⟨B4, m4, d4, A4, n4, c4, rfl, r4, L4, b4⟩
  clear hc HW3
  obtain ⟨w5, hw5⟩ : ∃ w5, w4.alloc (.cells #[.int .i64 X.to, .slice B4 m4 d4, .bool X.sp] 29) = w5 := ⟨_, rfl⟩
  have b5 : Below w4.heap.size w4 w5 := by rw [← hw5]; exact nkeep_alloc (Below.refl _ _) _
  have x5 : w5.heap[w4.heap.size]? = some (.cells #[.int .i64 X.to, .slice B4 m4 d4, .bool X.sp] 29 (0, 0)) := by rw [← hw5]; exact alloc_at _ _ _ rfl
  have HW5 := hidT hw5
  have HX5 := hidT x5
  clear hw5 x5
  have hc := HB.out.2.2.1 w5 (h.below (bthen b0 (bthen b1 (bthen b2 (bthen b3 (bthen b4 b5))))))
  go_wp2_with fail
  rw [HW5.out]
  with_reducible refine hc.mono ?_
  rintro e w6 ⟨g6, N6, hN6, rfl, f6, b6⟩
  have L6 := f6.rd hN6 (by omega)
  clear f6 hN6
  clear hc
  have hc := HB.out.2.2.2.1 w6 (h.below (bthen b0 (bthen b1 (bthen b2 (bthen b3 (bthen b4 (bthen b5 b6)))))))
  go_wp2_with fail
  with_reducible refine hc.mono ?_
  rintro e w7 ⟨A7, n7, c7, rfl, L7, b7⟩
  clear hc
  have hc := HB.out.2.2.2.2.1 w7 (h.below (bthen b0 (bthen b1 (bthen b2 (bthen b3 (bthen b4 (bthen b5 (bthen b6 b7))))))))
  go_wp2_with fail
  with_reducible refine hc.mono ?_
  rintro e w8 ⟨g8, N8, hN8, rfl, f8, b8⟩
  have L8 := f8.rd hN8 (by omega)
  clear f8 hN8
  clear hc
  have hc := HB.out.2.2.2.2.2.1 w8 (h.below (bthen b0 (bthen b1 (bthen b2 (bthen b3 (bthen b4 (bthen b5 (bthen b6 (bthen b7 b8)))))))))
  go_wp2_with fail
  with_reducible refine hc.mono ?_
  rintro e w9 ⟨A9, n9, c9, rfl, L9, b9⟩
  clear hc
  have hc := HB.out.2.2.2.2.2.2.1 w9 (h.below (bthen b0 (bthen b1 (bthen b2 (bthen b3 (bthen b4 (bthen b5 (bthen b6 (bthen b7 (bthen b8 b9)))))))))) (hB.below (bthen b0 (bthen b1 (bthen b2 (bthen b3 (bthen b4 (bthen b5 (bthen b6 (bthen b7 (bthen b8 b9))))))))))
  go_wp2_with fail
  with_reducible refine hc.mono ?_
  rintro e w10 ⟨g10, N10, hN10, rfl, f10, b10⟩
  have L10 := f10.rd hN10 (by omega)
  clear f10 hN10
  clear hc
  have hc := HB.out.2.2.2.2.2.2.2 w10 (h.below (bthen b0 (bthen b1 (bthen b2 (bthen b3 (bthen b4 (bthen b5 (bthen b6 (bthen b7 (bthen b8 (bthen b9 b10))))))))))) (hB.below (bthen b0 (bthen b1 (bthen b2 (bthen b3 (bthen b4 (bthen b5 (bthen b6 (bthen b7 (bthen b8 (bthen b9 b10)))))))))))
  go_wp2_with fail
  with_reducible refine hc.mono ?_
  rintro e w11 ⟨A11, n11, c11, rfl, L11, b11⟩
  clear hc
  clear HB HW5
  have X3 := (((bthen b4 (bthen b5 (bthen b6 (bthen b7 (bthen b8 (bthen b9 (bthen b10 b11)))))))).block _ (blk_lt HX3.out)).trans HX3.out
  have X5 := (((bthen b6 (bthen b7 (bthen b8 (bthen b9 (bthen b10 b11)))))).block _ (blk_lt HX5.out)).trans HX5.out
  obtain ⟨y0, y1, y2⟩ := cells3g X3
  obtain ⟨z0, z1, z2⟩ := cells3g X5
  obtain ⟨v0, v1, v2⟩ := cells3g ((nkeep_alloc (Below.refl w11.heap.size w11) (.cells #[.int .i64 X.to, .slice A2 n2 c2, .bool X.sp] 29)).block _ (blk_lt X5) |>.trans X5)
  have hc := two_lit w11 w11 (Below.refl _ _) X.to X.sp A2 n2 c2 B4 m4 d4 X.b (r2.below (bthen b3 (bthen b4 (bthen b5 (bthen b6 (bthen b7 (bthen b8 (bthen b9 (bthen b10 b11))))))))) (r4.below (bthen b5 (bthen b6 (bthen b7 (bthen b8 (bthen b9 (bthen b10 b11))))))) 29
  clear X3 X5 HX3 HX5 r2 r4
  go_wp2_with fail
  with_reducible refine hc.mono ?_
  rintro e w12 ⟨rfl, b12'⟩
  have b12 : Below w11.heap.size w11 w12 := bthen (nkeep_alloc (nkeep_alloc (Below.refl _ _) _) _) b12'
  clear hc b12' y0 y1 y2 z0 z1 z2 v0 v1 v2
  obtain ⟨D, hD⟩ : ∃ D, decide (ls = lo) = D := ⟨_, rfl⟩
  have hc := same_any _ _ _ ls _ _ _ lo w12 (h.below (bthen b0 (bthen b1 (bthen b2 (bthen b3 (bthen b4 (bthen b5 (bthen b6 (bthen b7 (bthen b8 (bthen b9 (bthen b10 (bthen b11 b12))))))))))))) (ho.below (bthen b0 (bthen b1 (bthen b2 (bthen b3 (bthen b4 (bthen b5 (bthen b6 (bthen b7 (bthen b8 (bthen b9 (bthen b10 (bthen b11 b12)))))))))))))
  rw [hD] at hc
  go_wp2_with fail
  with_reducible refine hc.mono ?_
  rintro e w13 ⟨rfl, b13⟩
  clear hc
  have hc := rsame_is' _ _ _ ls _ _ _ lo w13 (h.below (bthen b0 (bthen b1 (bthen b2 (bthen b3 (bthen b4 (bthen b5 (bthen b6 (bthen b7 (bthen b8 (bthen b9 (bthen b10 (bthen b11 (bthen b12 b13)))))))))))))) (ho.below (bthen b0 (bthen b1 (bthen b2 (bthen b3 (bthen b4 (bthen b5 (bthen b6 (bthen b7 (bthen b8 (bthen b9 (bthen b10 (bthen b11 (bthen b12 b13)))))))))))))) D hD
  clear hD
  go_wp2_with fail
  with_reducible refine hc.mono ?_
  rintro e w14 ⟨rfl, b14⟩
  clear hc
  have hDD : (D == D) = true := by simp
  have hc := rsame_yes _ _ _ _ _ _ _ w14 (L2.below (bthen b3 (bthen b4 (bthen b5 (bthen b6 (bthen b7 (bthen b8 (bthen b9 (bthen b10 (bthen b11 (bthen b12 (bthen b13 b14)))))))))))) (L4.below (bthen b5 (bthen b6 (bthen b7 (bthen b8 (bthen b9 (bthen b10 (bthen b11 (bthen b12 (bthen b13 b14))))))))))
  go_wp2_with fail
  with_reducible refine hc.mono ?_
  rintro e w15 ⟨rfl, b15⟩
  clear hc
  have hc := rsame_yes _ _ _ _ _ _ _ w15 (L6.below (bthen b7 (bthen b8 (bthen b9 (bthen b10 (bthen b11 (bthen b12 (bthen b13 (bthen b14 b15))))))))) (L7.below (bthen b8 (bthen b9 (bthen b10 (bthen b11 (bthen b12 (bthen b13 (bthen b14 b15))))))))
  go_wp2_with fail
  with_reducible refine hc.mono ?_
  rintro e w16 ⟨rfl, b16⟩
  clear hc
  have hc := rsame_yes _ _ _ _ _ _ _ w16 (L8.below (bthen b9 (bthen b10 (bthen b11 (bthen b12 (bthen b13 (bthen b14 (bthen b15 b16)))))))) (L9.below (bthen b10 (bthen b11 (bthen b12 (bthen b13 (bthen b14 (bthen b15 b16)))))))
  go_wp2_with fail
  with_reducible refine hc.mono ?_
  rintro e w17 ⟨rfl, b17⟩
  clear hc
  have hc := rsame_yes _ _ _ _ _ _ _ w17 (L10.below (bthen b11 (bthen b12 (bthen b13 (bthen b14 (bthen b15 (bthen b16 b17))))))) (L11.below (bthen b12 (bthen b13 (bthen b14 (bthen b15 (bthen b16 b17))))))
  go_wp2_with fail
  with_reducible refine hc.mono ?_
  rintro e w18 ⟨rfl, b18⟩
  clear hc
  have hc := put_any A n c ls q B m d bb w18 (h.below (bthen b0 (bthen b1 (bthen b2 (bthen b3 (bthen b4 (bthen b5 (bthen b6 (bthen b7 (bthen b8 (bthen b9 (bthen b10 (bthen b11 (bthen b12 (bthen b13 (bthen b14 (bthen b15 (bthen b16 (bthen b17 b18))))))))))))))))))) (hB.below (bthen b0 (bthen b1 (bthen b2 (bthen b3 (bthen b4 (bthen b5 (bthen b6 (bthen b7 (bthen b8 (bthen b9 (bthen b10 (bthen b11 (bthen b12 (bthen b13 (bthen b14 (bthen b15 (bthen b16 (bthen b17 b18))))))))))))))))))) hs (by omega) (by omega)
  go_wp2_with fail
  with_reducible refine hc.mono ?_
  rintro e w19 ⟨g19, N19, hN19, rfl, f19, b19⟩
  have L19 := f19.rd hN19 (by rw [List.length_append] at hN19; simp at hN19; omega)
  clear hc f19 hN19
  have hc := rput_any A n c ls q B m d bb w19 (h.below (bthen b0 (bthen b1 (bthen b2 (bthen b3 (bthen b4 (bthen b5 (bthen b6 (bthen b7 (bthen b8 (bthen b9 (bthen b10 (bthen b11 (bthen b12 (bthen b13 (bthen b14 (bthen b15 (bthen b16 (bthen b17 (bthen b18 b19)))))))))))))))))))) (hB.below (bthen b0 (bthen b1 (bthen b2 (bthen b3 (bthen b4 (bthen b5 (bthen b6 (bthen b7 (bthen b8 (bthen b9 (bthen b10 (bthen b11 (bthen b12 (bthen b13 (bthen b14 (bthen b15 (bthen b16 (bthen b17 (bthen b18 b19)))))))))))))))))))) (by omega) (by omega)
  go_wp2_with fail
  with_reducible refine hc.mono ?_
  rintro e w20 ⟨A20, n20, c20, rfl, L20, b20⟩
  clear hc
  have hc := rsame_yes _ _ _ _ _ _ _ w20 (L19.below b20) L20
  go_wp2_with fail
  with_reducible refine hc.mono ?_
  rintro e w21 ⟨rfl, b21⟩
  clear hc
  have hc := all_any A n c ls q w21 (h.below (bthen b0 (bthen b1 (bthen b2 (bthen b3 (bthen b4 (bthen b5 (bthen b6 (bthen b7 (bthen b8 (bthen b9 (bthen b10 (bthen b11 (bthen b12 (bthen b13 (bthen b14 (bthen b15 (bthen b16 (bthen b17 (bthen b18 (bthen b19 (bthen b20 b21)))))))))))))))))))))) hs
  go_wp2_with fail
  with_reducible refine hc.mono ?_
  rintro e w22 ⟨g22, N22, hN22, rfl, f22, b22⟩
  have L22 := f22.rd hN22 (by have := toL_length q ls; omega)
  clear hc f22 hN22
  have hc := rall_any A n c ls q w22 (h.below (bthen b0 (bthen b1 (bthen b2 (bthen b3 (bthen b4 (bthen b5 (bthen b6 (bthen b7 (bthen b8 (bthen b9 (bthen b10 (bthen b11 (bthen b12 (bthen b13 (bthen b14 (bthen b15 (bthen b16 (bthen b17 (bthen b18 (bthen b19 (bthen b20 (bthen b21 b22))))))))))))))))))))))) (by omega)
  go_wp2_with fail
  with_reducible refine hc.mono ?_
  rintro e w23 ⟨A23, n23, c23, rfl, L23, b23⟩
  clear hc
  have hc := rsame_yes _ _ _ _ _ _ _ w23 (L22.below b23) L23
  go_wp2_with fail
  with_reducible refine hc.mono ?_
  rintro e w24 ⟨rfl, b24⟩
  clear hc
  go_wp2
  go_ret
  exact ⟨rfl, (bthen b0 (bthen b1 (bthen b2 (bthen b3 (bthen b4 (bthen b5 (bthen b6 (bthen b7 (bthen b8 (bthen b9 (bthen b10 (bthen b11 (bthen b12 (bthen b13 (bthen b14 (bthen b15 (bthen b16 (bthen b17 (bthen b18 (bthen b19 (bthen b20 (bthen b21 (bthen b22 (bthen b23 b24))))))))))))))))))))))))⟩
end Go.Proofs.Ytenefjkgnkelgaa
