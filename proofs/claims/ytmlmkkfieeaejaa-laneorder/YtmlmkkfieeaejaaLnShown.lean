/- The document's example of package lane. -/
import Derived.Test.YtmlmkkfieeaejaaLnRead
import Derived.Test.YtmlmkkfieeaejaaLn3
import Derived.Test.YtmlmkkfieeaejaaLn3b
import Derived.Test.YtmlmkkfieeaejaaLn8b
import Derived.Test.YtmlmkkfieeaejaaLn9
import Derived.Test.YtmlmkkfieeaejaaLnRise
import Derived.Test.YtmlmkkfieeaejaaLn7
import Derived.Test.YtmlmkkfieeaejaaRLn5
import Derived.Lib.SlBytesConst
set_option maxRecDepth 100000
namespace Go.Proofs.Ytmlmkkfieeaejaa
open Go.RowKit
set_option linter.unusedVariables false

abbrev sh1 : Lane.Ln := ⟨[], ⟨3, 2, 1, [97, 98]⟩⟩
abbrev sh2 : Lane.Ln := ⟨[⟨1, 3, [97, 98, 99], [], false⟩], none_⟩
abbrev sh3 : Lane.Ln := ⟨[⟨1, 3, [97, 98, 99], [], false⟩, ⟨2, 5, [], [0], true⟩], none_⟩
abbrev shd : Lane.Ln := ⟨[⟨2, 5, [], [0], true⟩], none_⟩
abbrev shs : Lane.Ln := ⟨[⟨1, 3, [97, 98, 99], [], false⟩, ⟨2, 5, [], [], false⟩], none_⟩
abbrev shz : Lane.Ln := ⟨[⟨0, 0, [], [], false⟩], none_⟩
abbrev shi1 : Item.It := ⟨1, 3, 0, 0, 2, 0, [], [97, 98]⟩
abbrev shi2 : Item.It := ⟨1, 4, 0, 1, 2, 0, [], [99]⟩
abbrev shi3 : Item.It := ⟨2, 5, 0, 1, 0, 0, [0], []⟩
abbrev shi4 : Item.It := ⟨4, 6, 0, 0, 0, 0, [], []⟩
abbrev shi5 : Item.It := ⟨3, 5, 0, 0, 0, 0, [], []⟩
abbrev she : Lane.En := ⟨2, 5, [], [], false⟩
theorem smL {l : Lane.Ln} (h1 : l.es.length ≤ 65536) (h2 : l.es.all (fun x => decide (x.l.length ≤ 65536) && decide (x.b.length ≤ 65536)) = true) (h3 : l.p.b.length ≤ 65536) : SmallL l := ⟨h1, fun x hx => by
  have := List.all_eq_true.1 h2 x hx
  simpa [SmallE] using this, h3⟩
theorem sm1 : SmallL sh1 := smL (by decide) (by decide) (by decide)
theorem sm2 : SmallL sh2 := smL (by decide) (by decide) (by decide)
theorem sm3 : SmallL sh3 := smL (by decide) (by decide) (by decide)
theorem rd1 : Lane.read Lane.Ln.zero shi1 = (sh1, 0) := by decide
theorem rd2 : Lane.read sh1 shi2 = (sh2, 0) := by decide
theorem rd3 : Lane.read sh2 shi3 = (sh3, 0) := by decide
theorem rd4 : Lane.read sh3 shi4 = (sh3, 1) := by decide
theorem rd5 : Lane.read sh3 shi5 = (sh3, 2) := by decide
theorem kcell {w w' : World} {p : Addr} {v : Value} (h : w.cell? p = some v) (hb : Below w.heap.size w w') : w'.cell? p = some v := (hb.cell (World.block_lt_of_cell? w p h)).trans h
theorem kc_lit (w : World) (g : Nat) (hg : w.heap.size = g) (C : Array Value) (n c : Nat) : (convert 23 23 (.slice (some ⟨g, 0, none⟩) n c)).run Try.prog (w.alloc (.cells C 5)) = .ok (.slice (some ⟨g, 0, none⟩) n c) (w.alloc (.cells C 5 (C.size, C.size + 1))) := by
  subst hg
  exact Lib.run_convert_bytes_const (P := Try.prog) w _ _ C n c Try.underlying23 Try.underlying5

set_option maxHeartbeats 8000000 in
theorem shown_any (w : World) : Calls Try.prog 9 #[] w (Yes w) := by
  have B_0 := hidT (Below.refl w.heap.size w)
  obtain ⟨g0, hg0⟩ : ∃ g, w.heap.size = g := ⟨_, rfl⟩
  go_enter Try.func9, Try.ntmps9
  have nk := nkeep w (.cells #[.int .u8 97, .int .u8 98] 5 (2, 3))
  have hit : IsItem (w.alloc (.cells #[.int .u8 97, .int .u8 98] 5 (2, 3))) (.agg #[.int .i64 1, .int .i64 3, .int .i64 0, .int .i64 0, .int .i64 2, .int .i64 0, .slice none 0 0, .slice (some ⟨g0, 0, none⟩) 2 2]) shi1 := ⟨none, 0, 0, some ⟨g0, 0, none⟩, 2, 2, rfl, RdV.nil_ _, Rd.litAt w 5 (2, 3) #[.int .u8 97, .int .u8 98] [97, 98] rfl 2 rfl (by simp only [maxLen]; omega) g0 hg0⟩
  have hc := read_any _ _ Lane.Ln.zero shi1 (w.alloc (.cells #[.int .u8 97, .int .u8 98] 5 (2, 3))) (IsLane.zero Any (w.alloc (.cells #[.int .u8 97, .int .u8 98] 5 (2, 3)))) hit (smL (l := Lane.Ln.zero) (by decide) (by decide) (by decide)) (by decide) (by decide) (by decide)
  rw [rd1] at hc
  have HC := hidT hc
  have HNK := hidT nk
  clear hit hc nk
  have kct : (convert 23 23 (.slice (some ⟨g0, 0, none⟩) 2 2)).run Try.prog (w.alloc (.cells #[.int .u8 97, .int .u8 98] 5)) = .ok (.slice (some ⟨g0, 0, none⟩) 2 2) (w.alloc (.cells #[.int .u8 97, .int .u8 98] 5 (2, 3))) := kc_lit w _ hg0 #[.int .u8 97, .int .u8 98] 2 2
  go_wp2_with fail
  with_reducible refine HC.out.mono ?_
  rintro e y1 ⟨v, rfl, hl, hb0⟩
  have hb := bthen HNK.out hb0
  have B_1 := hidT (bthen B_0.out hb)
  clear B_0
  clear hb hb0 HC HNK kct
  obtain ⟨Aa, na, ca, Ba, ma, da, eva, -, -, -⟩ := id hl
  have eva' : v = .agg #[.slice Aa na ca, .int .i64 3, .int .i64 2, .int .i64 1, .slice Ba ma da] := eva
  clear eva
  subst eva'
  have t1 := alloc_at y1 (.cells #[.slice Aa na ca, .int .i64 3, .int .i64 2, .int .i64 1, .slice Ba ma da] 27) _ rfl
  have t3 := nkeep y1 (.cells #[.slice Aa na ca, .int .i64 3, .int .i64 2, .int .i64 1, .slice Ba ma da] 27)
  obtain ⟨Vy1, hVy1⟩ : ∃ W, y1.alloc (.cells #[.slice Aa na ca, .int .i64 3, .int .i64 2, .int .i64 1, .slice Ba ma da] 27) = W := ⟨_, rfl⟩
  rw [hVy1] at t1 t3
  have HVy1 := hidT hVy1
  have B_2 := hidT (bthen B_1.out t3)
  clear B_1
  have aL_0 := hidT (hl.below t3)
  obtain ⟨gy1, hgy1⟩ : ∃ p, y1.heap.size = p := ⟨_, rfl⟩
  rw [hgy1] at t1
  have aH_0 := hidT (t1)
  clear t1 t3 hVy1
  clear hl
  clear hg0
  obtain ⟨a0, a1, a2, a3, a4⟩ := cells5 aH_0.out
  have nk := nkeep Vy1 (.cells #[.int .u8 99] 5 (1, 2))
  have hit : IsItem (Vy1.alloc (.cells #[.int .u8 99] 5 (1, 2))) (.agg #[.int .i64 1, .int .i64 4, .int .i64 0, .int .i64 1, .int .i64 2, .int .i64 0, .slice none 0 0, .slice (some ⟨gy1 + 1, 0, none⟩) 1 1]) shi2 := ⟨none, 0, 0, some ⟨gy1 + 1, 0, none⟩, 1, 1, rfl, RdV.nil_ _, Rd.litAt Vy1 5 (1, 2) #[.int .u8 99] [99] rfl 1 rfl (by simp only [maxLen]; omega) _ (by rw [← HVy1.out, size_alloc, hgy1])⟩
  have hc := read_any _ _ sh1 shi2 (Vy1.alloc (.cells #[.int .u8 99] 5 (1, 2))) (aL_0.out.below nk) hit sm1 (by decide) (by decide) (by decide)
  rw [rd2] at hc
  have HC := hidT hc
  have HNK := hidT nk
  clear hit hc nk
  have kct : (convert 23 23 (.slice (some ⟨gy1 + 1, 0, none⟩) 1 1)).run Try.prog (Vy1.alloc (.cells #[.int .u8 99] 5)) = .ok (.slice (some ⟨gy1 + 1, 0, none⟩) 1 1) (Vy1.alloc (.cells #[.int .u8 99] 5 (1, 2))) := kc_lit Vy1 _ (by rw [← HVy1.out, size_alloc, hgy1]) #[.int .u8 99] 1 1
  rw [← HVy1.out] at a0 a1 a2 a3 a4 kct
  go_wp2_with fail
  rw [HVy1.out]
  clear hgy1
  with_reducible refine HC.out.mono ?_
  rintro e y2 ⟨v, rfl, hl, hb0⟩
  have hb := bthen HNK.out hb0
  have B_3 := hidT (bthen B_2.out hb)
  have aL_1 := hidT (aL_0.out.below hb)
  have aH_1 := hidT (keepH aH_0.out hb)
  clear B_2 aL_0 aH_0
  clear hb hb0 HC HNK a0 a1 a2 a3 a4 kct
  obtain ⟨Ab, nb, cb, Bb, mb, db, evb, -, -, -⟩ := id hl
  have evb' : v = .agg #[.slice Ab nb cb, .int .i64 0, .int .i64 0, .int .i64 0, .slice Bb mb db] := evb
  clear evb
  subst evb'
  have t1 := alloc_at y2 (.cells #[.slice Ab nb cb, .int .i64 0, .int .i64 0, .int .i64 0, .slice Bb mb db] 27) _ rfl
  have t3 := nkeep y2 (.cells #[.slice Ab nb cb, .int .i64 0, .int .i64 0, .int .i64 0, .slice Bb mb db] 27)
  obtain ⟨Vy2, hVy2⟩ : ∃ W, y2.alloc (.cells #[.slice Ab nb cb, .int .i64 0, .int .i64 0, .int .i64 0, .slice Bb mb db] 27) = W := ⟨_, rfl⟩
  rw [hVy2] at t1 t3
  have HVy2 := hidT hVy2
  have B_4 := hidT (bthen B_3.out t3)
  have aL_2 := hidT (aL_1.out.below t3)
  have aH_2 := hidT (keepH aH_1.out t3)
  clear B_3 aL_1 aH_1
  have bL_0 := hidT (hl.below t3)
  obtain ⟨gy2, hgy2⟩ : ∃ p, y2.heap.size = p := ⟨_, rfl⟩
  rw [hgy2] at t1
  have bH_0 := hidT (t1)
  clear t1 t3 hVy2
  clear hl
  obtain ⟨b0, b1, b2, b3, b4⟩ := cells5 bH_0.out
  have nk := nkeep Vy2 (.cells #[.int .i64 0] 3)
  have hit : IsItem (Vy2.alloc (.cells #[.int .i64 0] 3)) (.agg #[.int .i64 2, .int .i64 5, .int .i64 0, .int .i64 1, .int .i64 0, .int .i64 0, .slice (some ⟨gy2 + 1, 0, none⟩) 1 1, .slice none 0 0]) shi3 := ⟨some ⟨gy2 + 1, 0, none⟩, 1, 1, none, 0, 0, rfl, RdV.lit Vy2 3 (0, 0) #[.int .i64 0] (is [0]) rfl 1 rfl (by simp only [maxLen]; omega) _ (by rw [← HVy2.out, size_alloc, hgy2]), Rd.nil_ _⟩
  have hc := read_any _ _ sh2 shi3 (Vy2.alloc (.cells #[.int .i64 0] 3)) (bL_0.out.below nk) hit sm2 (by decide) (by decide) (by decide)
  rw [rd3] at hc
  have HC := hidT hc
  have HNK := hidT nk
  clear hit hc nk
  rw [← HVy2.out] at b0 b1 b2 b3 b4
  go_wp2_with fail
  rw [HVy2.out]
  clear hgy2
  with_reducible refine HC.out.mono ?_
  rintro e y3 ⟨v, rfl, hl, hb0⟩
  have hb := bthen HNK.out hb0
  have B_5 := hidT (bthen B_4.out hb)
  have aL_3 := hidT (aL_2.out.below hb)
  have aH_3 := hidT (keepH aH_2.out hb)
  have bL_1 := hidT (bL_0.out.below hb)
  have bH_1 := hidT (keepH bH_0.out hb)
  clear B_4 aL_2 aH_2 bL_0 bH_0
  clear hb hb0 HC HNK b0 b1 b2 b3 b4
  obtain ⟨Ac, nc, cc, Bc, mc, dc, evc, -, -, -⟩ := id hl
  have evc' : v = .agg #[.slice Ac nc cc, .int .i64 0, .int .i64 0, .int .i64 0, .slice Bc mc dc] := evc
  clear evc
  subst evc'
  have t1 := alloc_at y3 (.cells #[.slice Ac nc cc, .int .i64 0, .int .i64 0, .int .i64 0, .slice Bc mc dc] 27) _ rfl
  have t3 := nkeep y3 (.cells #[.slice Ac nc cc, .int .i64 0, .int .i64 0, .int .i64 0, .slice Bc mc dc] 27)
  obtain ⟨Vy3, hVy3⟩ : ∃ W, y3.alloc (.cells #[.slice Ac nc cc, .int .i64 0, .int .i64 0, .int .i64 0, .slice Bc mc dc] 27) = W := ⟨_, rfl⟩
  rw [hVy3] at t1 t3
  have HVy3 := hidT hVy3
  have B_6 := hidT (bthen B_5.out t3)
  have aL_4 := hidT (aL_3.out.below t3)
  have aH_4 := hidT (keepH aH_3.out t3)
  have bL_2 := hidT (bL_1.out.below t3)
  have bH_2 := hidT (keepH bH_1.out t3)
  clear B_5 aL_3 aH_3 bL_1 bH_1
  have cL_0 := hidT (hl.below t3)
  obtain ⟨gy3, hgy3⟩ : ∃ p, y3.heap.size = p := ⟨_, rfl⟩
  rw [hgy3] at t1
  have cH_0 := hidT (t1)
  clear t1 t3 hVy3
  clear hl
  obtain ⟨c0, c1, c2, c3, c4⟩ := cells5 cH_0.out
  have hc := message_any _ sh3 Vy3 cL_0.out sm3
  rw [show Lane.message sh3 = some ⟨1, 3, [97, 98, 99], [], false⟩ by decide] at hc
  have HC := hidT hc
  clear hc
  rw [← HVy3.out] at c0 c1 c2 c3 c4
  go_wp2_with fail
  rw [HVy3.out]
  clear hgy3
  with_reducible refine HC.out.mono ?_
  rintro e y4 ⟨v, rfl, hl, hb⟩
  have B_7 := hidT (bthen B_6.out hb)
  have aL_5 := hidT (aL_4.out.below hb)
  have aH_5 := hidT (keepH aH_4.out hb)
  have bL_3 := hidT (bL_2.out.below hb)
  have bH_3 := hidT (keepH bH_2.out hb)
  have cL_1 := hidT (cL_0.out.below hb)
  have cH_1 := hidT (keepH cH_0.out hb)
  clear B_6 aL_4 aH_4 bL_2 bH_2 cL_0 cH_0
  clear hb HC c0 c1 c2 c3 c4
  obtain ⟨BAm, bnm, bcm, LAm, lnm, lcm, evm, -, -, -, -⟩ := id hl
  have evm' : v = .agg #[.int .i64 1, .int .i64 3, .slice BAm bnm bcm, .slice LAm lnm lcm, .bool false] := evm
  clear evm
  subst evm'
  have t1 := alloc_at y4 (.cells #[.int .i64 1, .int .i64 3, .slice BAm bnm bcm, .slice LAm lnm lcm, .bool false] 33) _ rfl
  have t3 := nkeep y4 (.cells #[.int .i64 1, .int .i64 3, .slice BAm bnm bcm, .slice LAm lnm lcm, .bool false] 33)
  obtain ⟨Vy4, hVy4⟩ : ∃ W, y4.alloc (.cells #[.int .i64 1, .int .i64 3, .slice BAm bnm bcm, .slice LAm lnm lcm, .bool false] 33) = W := ⟨_, rfl⟩
  rw [hVy4] at t1 t3
  have HVy4 := hidT hVy4
  have B_8 := hidT (bthen B_7.out t3)
  have aL_6 := hidT (aL_5.out.below t3)
  have aH_6 := hidT (keepH aH_5.out t3)
  have bL_4 := hidT (bL_3.out.below t3)
  have bH_4 := hidT (keepH bH_3.out t3)
  have cL_2 := hidT (cL_1.out.below t3)
  have cH_2 := hidT (keepH cH_1.out t3)
  clear B_7 aL_5 aH_5 bL_3 bH_3 cL_1 cH_1
  have mE_0 := hidT (hl.below t3)
  obtain ⟨gy4, hgy4⟩ : ∃ p, y4.heap.size = p := ⟨_, rfl⟩
  rw [hgy4] at t1
  have mH_0 := hidT (t1)
  clear t1 t3 hVy4
  clear hl
  obtain ⟨c0, c1, c2, c3, c4⟩ := cells5 cH_2.out
  have hc := control_any _ sh3 Vy4 cL_2.out sm3
  rw [show Lane.control sh3 = some ⟨2, 5, [], [0], true⟩ by decide] at hc
  have HC := hidT hc
  clear hc
  rw [← HVy4.out] at c0 c1 c2 c3 c4
  go_wp2_with fail
  rw [HVy4.out]
  clear hgy4
  with_reducible refine HC.out.mono ?_
  rintro e y5 ⟨v, rfl, hl, hb⟩
  have B_9 := hidT (bthen B_8.out hb)
  have aL_7 := hidT (aL_6.out.below hb)
  have aH_7 := hidT (keepH aH_6.out hb)
  have bL_5 := hidT (bL_4.out.below hb)
  have bH_5 := hidT (keepH bH_4.out hb)
  have cL_3 := hidT (cL_2.out.below hb)
  have cH_3 := hidT (keepH cH_2.out hb)
  have mE_1 := hidT (mE_0.out.below hb)
  have mH_1 := hidT (keepH mH_0.out hb)
  clear B_8 aL_6 aH_6 bL_4 bH_4 cL_2 cH_2 mE_0 mH_0
  clear hb HC c0 c1 c2 c3 c4
  obtain ⟨BAo, bno, bco, LAo, lno, lco, evo, -, -, -, -⟩ := id hl
  have evo' : v = .agg #[.int .i64 2, .int .i64 5, .slice BAo bno bco, .slice LAo lno lco, .bool true] := evo
  clear evo
  subst evo'
  have t1 := alloc_at y5 (.cells #[.int .i64 2, .int .i64 5, .slice BAo bno bco, .slice LAo lno lco, .bool true] 33) _ rfl
  have t3 := nkeep y5 (.cells #[.int .i64 2, .int .i64 5, .slice BAo bno bco, .slice LAo lno lco, .bool true] 33)
  obtain ⟨Vy5, hVy5⟩ : ∃ W, y5.alloc (.cells #[.int .i64 2, .int .i64 5, .slice BAo bno bco, .slice LAo lno lco, .bool true] 33) = W := ⟨_, rfl⟩
  rw [hVy5] at t1 t3
  have HVy5 := hidT hVy5
  have B_10 := hidT (bthen B_9.out t3)
  have aL_8 := hidT (aL_7.out.below t3)
  have aH_8 := hidT (keepH aH_7.out t3)
  have bL_6 := hidT (bL_5.out.below t3)
  have bH_6 := hidT (keepH bH_5.out t3)
  have cL_4 := hidT (cL_3.out.below t3)
  have cH_4 := hidT (keepH cH_3.out t3)
  have mE_2 := hidT (mE_1.out.below t3)
  have mH_2 := hidT (keepH mH_1.out t3)
  clear B_9 aL_7 aH_7 bL_5 bH_5 cL_3 cH_3 mE_1 mH_1
  have oE_0 := hidT (hl.below t3)
  obtain ⟨gy5, hgy5⟩ : ∃ p, y5.heap.size = p := ⟨_, rfl⟩
  rw [hgy5] at t1
  have oH_0 := hidT (t1)
  clear t1 t3 hVy5
  clear hl
  obtain ⟨c0, c1, c2, c3, c4⟩ := cells5 cH_4.out
  have hc := first_any _ sh3 Vy5 cL_4.out sm3
  rw [show Lane.first sh3 = some ⟨1, 3, [97, 98, 99], [], false⟩ by decide] at hc
  have HC := hidT hc
  clear hc
  rw [← HVy5.out] at c0 c1 c2 c3 c4
  go_wp2_with fail
  rw [HVy5.out]
  clear hgy5
  with_reducible refine HC.out.mono ?_
  rintro e y6 ⟨v, rfl, hl, hb⟩
  have B_11 := hidT (bthen B_10.out hb)
  have aL_9 := hidT (aL_8.out.below hb)
  have aH_9 := hidT (keepH aH_8.out hb)
  have bL_7 := hidT (bL_6.out.below hb)
  have bH_7 := hidT (keepH bH_6.out hb)
  have cL_5 := hidT (cL_4.out.below hb)
  have cH_5 := hidT (keepH cH_4.out hb)
  have mE_3 := hidT (mE_2.out.below hb)
  have mH_3 := hidT (keepH mH_2.out hb)
  have oE_1 := hidT (oE_0.out.below hb)
  have oH_1 := hidT (keepH oH_0.out hb)
  clear B_10 aL_8 aH_8 bL_6 bH_6 cL_4 cH_4 mE_2 mH_2 oE_0 oH_0
  clear hb HC c0 c1 c2 c3 c4
  obtain ⟨BAf, bnf, bcf, LAf, lnf, lcf, evf, -, -, -, -⟩ := id hl
  have evf' : v = .agg #[.int .i64 1, .int .i64 3, .slice BAf bnf bcf, .slice LAf lnf lcf, .bool false] := evf
  clear evf
  subst evf'
  have t1 := alloc_at y6 (.cells #[.int .i64 1, .int .i64 3, .slice BAf bnf bcf, .slice LAf lnf lcf, .bool false] 33) _ rfl
  have t3 := nkeep y6 (.cells #[.int .i64 1, .int .i64 3, .slice BAf bnf bcf, .slice LAf lnf lcf, .bool false] 33)
  obtain ⟨Vy6, hVy6⟩ : ∃ W, y6.alloc (.cells #[.int .i64 1, .int .i64 3, .slice BAf bnf bcf, .slice LAf lnf lcf, .bool false] 33) = W := ⟨_, rfl⟩
  rw [hVy6] at t1 t3
  have HVy6 := hidT hVy6
  have B_12 := hidT (bthen B_11.out t3)
  have aL_10 := hidT (aL_9.out.below t3)
  have aH_10 := hidT (keepH aH_9.out t3)
  have bL_8 := hidT (bL_7.out.below t3)
  have bH_8 := hidT (keepH bH_7.out t3)
  have cL_6 := hidT (cL_5.out.below t3)
  have cH_6 := hidT (keepH cH_5.out t3)
  have mE_4 := hidT (mE_3.out.below t3)
  have mH_4 := hidT (keepH mH_3.out t3)
  have oE_2 := hidT (oE_1.out.below t3)
  have oH_2 := hidT (keepH oH_1.out t3)
  clear B_11 aL_9 aH_9 bL_7 bH_7 cL_5 cH_5 mE_3 mH_3 oE_1 oH_1
  have fE_0 := hidT (hl.below t3)
  obtain ⟨gy6, hgy6⟩ : ∃ p, y6.heap.size = p := ⟨_, rfl⟩
  rw [hgy6] at t1
  have fH_0 := hidT (t1)
  clear t1 t3 hVy6
  clear hl
  obtain ⟨c0, c1, c2, c3, c4⟩ := cells5 cH_6.out
  have hit : IsItem Vy6 (.agg #[.int .i64 4, .int .i64 6, .int .i64 0, .int .i64 0, .int .i64 0, .int .i64 0, .slice none 0 0, .slice none 0 0]) shi4 := ⟨none, 0, 0, none, 0, 0, rfl, RdV.nil_ _, Rd.nil_ _⟩
  have hc := read_any _ _ sh3 shi4 Vy6 cL_6.out hit sm3 (by decide) (by decide) (by decide)
  rw [rd4] at hc
  have HC := hidT hc
  clear hit hc
  rw [← HVy6.out] at c0 c1 c2 c3 c4
  go_wp2_with fail
  rw [HVy6.out]
  clear hgy6
  with_reducible refine HC.out.mono ?_
  rintro e y14 ⟨v, rfl, hl, hb⟩
  have B_13 := hidT (bthen B_12.out hb)
  have aL_11 := hidT (aL_10.out.below hb)
  have aH_11 := hidT (keepH aH_10.out hb)
  have bL_9 := hidT (bL_8.out.below hb)
  have bH_9 := hidT (keepH bH_8.out hb)
  have cL_7 := hidT (cL_6.out.below hb)
  have cH_7 := hidT (keepH cH_6.out hb)
  have mE_5 := hidT (mE_4.out.below hb)
  have mH_5 := hidT (keepH mH_4.out hb)
  have oE_3 := hidT (oE_2.out.below hb)
  have oH_3 := hidT (keepH oH_2.out hb)
  have fE_1 := hidT (fE_0.out.below hb)
  have fH_1 := hidT (keepH fH_0.out hb)
  clear B_12 aL_10 aH_10 bL_8 bH_8 cL_6 cH_6 mE_4 mH_4 oE_2 oH_2 fE_0 fH_0
  clear hb HC c0 c1 c2 c3 c4
  obtain ⟨Ax, nx, cx, Bx, mx, dx, evx, -, -, -⟩ := id hl
  have evx' : v = .agg #[.slice Ax nx cx, .int .i64 0, .int .i64 0, .int .i64 0, .slice Bx mx dx] := evx
  clear evx
  subst evx'
  have t1 := alloc_at y14 (.cells #[.slice Ax nx cx, .int .i64 0, .int .i64 0, .int .i64 0, .slice Bx mx dx] 27) _ rfl
  have t3 := nkeep y14 (.cells #[.slice Ax nx cx, .int .i64 0, .int .i64 0, .int .i64 0, .slice Bx mx dx] 27)
  obtain ⟨Vy14, hVy14⟩ : ∃ W, y14.alloc (.cells #[.slice Ax nx cx, .int .i64 0, .int .i64 0, .int .i64 0, .slice Bx mx dx] 27) = W := ⟨_, rfl⟩
  rw [hVy14] at t1 t3
  have HVy14 := hidT hVy14
  have B_14 := hidT (bthen B_13.out t3)
  have aL_12 := hidT (aL_11.out.below t3)
  have aH_12 := hidT (keepH aH_11.out t3)
  have bL_10 := hidT (bL_9.out.below t3)
  have bH_10 := hidT (keepH bH_9.out t3)
  have cL_8 := hidT (cL_7.out.below t3)
  have cH_8 := hidT (keepH cH_7.out t3)
  have mE_6 := hidT (mE_5.out.below t3)
  have mH_6 := hidT (keepH mH_5.out t3)
  have oE_4 := hidT (oE_3.out.below t3)
  have oH_4 := hidT (keepH oH_3.out t3)
  have fE_2 := hidT (fE_1.out.below t3)
  have fH_2 := hidT (keepH fH_1.out t3)
  clear B_13 aL_11 aH_11 bL_9 bH_9 cL_7 cH_7 mE_5 mH_5 oE_3 oH_3 fE_1 fH_1
  obtain ⟨gy14, hgy14⟩ : ∃ p, y14.heap.size = p := ⟨_, rfl⟩
  rw [hgy14] at t1
  clear t1 t3 hVy14
  clear hl
  obtain ⟨c0, c1, c2, c3, c4⟩ := cells5 cH_8.out
  have hit : IsItem Vy14 (.agg #[.int .i64 3, .int .i64 5, .int .i64 0, .int .i64 0, .int .i64 0, .int .i64 0, .slice none 0 0, .slice none 0 0]) shi5 := ⟨none, 0, 0, none, 0, 0, rfl, RdV.nil_ _, Rd.nil_ _⟩
  have hc := read_any _ _ sh3 shi5 Vy14 cL_8.out hit sm3 (by decide) (by decide) (by decide)
  rw [rd5] at hc
  have HC := hidT hc
  clear hit hc
  rw [← HVy14.out] at c0 c1 c2 c3 c4
  go_wp2_with fail
  rw [HVy14.out]
  clear hgy14
  with_reducible refine HC.out.mono ?_
  rintro e y15 ⟨v, rfl, hl, hb⟩
  have B_15 := hidT (bthen B_14.out hb)
  have aL_13 := hidT (aL_12.out.below hb)
  have aH_13 := hidT (keepH aH_12.out hb)
  have bL_11 := hidT (bL_10.out.below hb)
  have bH_11 := hidT (keepH bH_10.out hb)
  have cL_9 := hidT (cL_8.out.below hb)
  have cH_9 := hidT (keepH cH_8.out hb)
  have mE_7 := hidT (mE_6.out.below hb)
  have mH_7 := hidT (keepH mH_6.out hb)
  have oE_5 := hidT (oE_4.out.below hb)
  have oH_5 := hidT (keepH oH_4.out hb)
  have fE_3 := hidT (fE_2.out.below hb)
  have fH_3 := hidT (keepH fH_2.out hb)
  clear B_14 aL_12 aH_12 bL_10 bH_10 cL_8 cH_8 mE_6 mH_6 oE_4 oH_4 fE_2 fH_2
  clear hb HC c0 c1 c2 c3 c4
  obtain ⟨Az, nz, cz, Bz, mz, dz, evz, -, -, -⟩ := id hl
  have evz' : v = .agg #[.slice Az nz cz, .int .i64 0, .int .i64 0, .int .i64 0, .slice Bz mz dz] := evz
  clear evz
  subst evz'
  have t1 := alloc_at y15 (.cells #[.slice Az nz cz, .int .i64 0, .int .i64 0, .int .i64 0, .slice Bz mz dz] 27) _ rfl
  have t3 := nkeep y15 (.cells #[.slice Az nz cz, .int .i64 0, .int .i64 0, .int .i64 0, .slice Bz mz dz] 27)
  obtain ⟨Vy15, hVy15⟩ : ∃ W, y15.alloc (.cells #[.slice Az nz cz, .int .i64 0, .int .i64 0, .int .i64 0, .slice Bz mz dz] 27) = W := ⟨_, rfl⟩
  rw [hVy15] at t1 t3
  have HVy15 := hidT hVy15
  have B_16 := hidT (bthen B_15.out t3)
  have aL_14 := hidT (aL_13.out.below t3)
  have aH_14 := hidT (keepH aH_13.out t3)
  have bL_12 := hidT (bL_11.out.below t3)
  have bH_12 := hidT (keepH bH_11.out t3)
  have cL_10 := hidT (cL_9.out.below t3)
  have cH_10 := hidT (keepH cH_9.out t3)
  have mE_8 := hidT (mE_7.out.below t3)
  have mH_8 := hidT (keepH mH_7.out t3)
  have oE_6 := hidT (oE_5.out.below t3)
  have oH_6 := hidT (keepH oH_5.out t3)
  have fE_4 := hidT (fE_3.out.below t3)
  have fH_4 := hidT (keepH fH_3.out t3)
  clear B_15 aL_13 aH_13 bL_11 bH_11 cL_9 cH_9 mE_7 mH_7 oE_5 oH_5 fE_3 fH_3
  obtain ⟨gy15, hgy15⟩ : ∃ p, y15.heap.size = p := ⟨_, rfl⟩
  rw [hgy15] at t1
  clear t1 t3 hVy15
  clear hl
  obtain ⟨a0, a1, a2, a3, a4⟩ := cells5 aH_14.out
  have hc := first_any _ sh1 Vy15 aL_14.out sm1
  rw [show Lane.first sh1 = none by decide] at hc
  have HC := hidT hc
  clear hc
  rw [← HVy15.out] at a0 a1 a2 a3 a4
  go_wp2_with fail
  rw [HVy15.out]
  clear hgy15
  with_reducible refine HC.out.mono ?_
  rintro e y21 ⟨v, rfl, hl, hb⟩
  have B_17 := hidT (bthen B_16.out hb)
  have aL_15 := hidT (aL_14.out.below hb)
  have aH_15 := hidT (keepH aH_14.out hb)
  have bL_13 := hidT (bL_12.out.below hb)
  have bH_13 := hidT (keepH bH_12.out hb)
  have cL_11 := hidT (cL_10.out.below hb)
  have cH_11 := hidT (keepH cH_10.out hb)
  have mE_9 := hidT (mE_8.out.below hb)
  have mH_9 := hidT (keepH mH_8.out hb)
  have oE_7 := hidT (oE_6.out.below hb)
  have oH_7 := hidT (keepH oH_6.out hb)
  have fE_5 := hidT (fE_4.out.below hb)
  have fH_5 := hidT (keepH fH_4.out hb)
  clear B_16 aL_14 aH_14 bL_12 bH_12 cL_10 cH_10 mE_8 mH_8 oE_6 oH_6 fE_4 fH_4
  clear hb HC a0 a1 a2 a3 a4
  obtain ⟨BAn, bnn, bcn, LAn, lnn, lcn, evn, -, -, -, -⟩ := id hl
  have evn' : v = .agg #[.int .i64 0, .int .i64 0, .slice BAn bnn bcn, .slice LAn lnn lcn, .bool false] := evn
  clear evn
  subst evn'
  have t1 := alloc_at y21 (.cells #[.int .i64 0, .int .i64 0, .slice BAn bnn bcn, .slice LAn lnn lcn, .bool false] 33) _ rfl
  have t3 := nkeep y21 (.cells #[.int .i64 0, .int .i64 0, .slice BAn bnn bcn, .slice LAn lnn lcn, .bool false] 33)
  obtain ⟨Vy21, hVy21⟩ : ∃ W, y21.alloc (.cells #[.int .i64 0, .int .i64 0, .slice BAn bnn bcn, .slice LAn lnn lcn, .bool false] 33) = W := ⟨_, rfl⟩
  rw [hVy21] at t1 t3
  have HVy21 := hidT hVy21
  have B_18 := hidT (bthen B_17.out t3)
  have aL_16 := hidT (aL_15.out.below t3)
  have aH_16 := hidT (keepH aH_15.out t3)
  have bL_14 := hidT (bL_13.out.below t3)
  have bH_14 := hidT (keepH bH_13.out t3)
  have cL_12 := hidT (cL_11.out.below t3)
  have cH_12 := hidT (keepH cH_11.out t3)
  have mE_10 := hidT (mE_9.out.below t3)
  have mH_10 := hidT (keepH mH_9.out t3)
  have oE_8 := hidT (oE_7.out.below t3)
  have oH_8 := hidT (keepH oH_7.out t3)
  have fE_6 := hidT (fE_5.out.below t3)
  have fH_6 := hidT (keepH fH_5.out t3)
  clear B_17 aL_15 aH_15 bL_13 bH_13 cL_11 cH_11 mE_9 mH_9 oE_7 oH_7 fE_5 fH_5
  obtain ⟨gy21, hgy21⟩ : ∃ p, y21.heap.size = p := ⟨_, rfl⟩
  rw [hgy21] at t1
  clear t1 t3 hVy21
  clear hl
  obtain ⟨c0, c1, c2, c3, c4⟩ := cells5 cH_12.out
  have hc := pop_any _ sh3 3 Vy21 cL_12.out sm3 (by decide)
  rw [show Lane.pop sh3 3 = shd by decide] at hc
  have HC := hidT hc
  clear hc
  rw [← HVy21.out] at c0 c1 c2 c3 c4
  go_wp2_with fail
  rw [HVy21.out]
  clear hgy21
  with_reducible refine HC.out.mono ?_
  rintro e y22 ⟨v, rfl, hl, hb⟩
  have B_19 := hidT (bthen B_18.out hb)
  have aL_17 := hidT (aL_16.out.below hb)
  have aH_17 := hidT (keepH aH_16.out hb)
  have bL_15 := hidT (bL_14.out.below hb)
  have bH_15 := hidT (keepH bH_14.out hb)
  have cL_13 := hidT (cL_12.out.below hb)
  have cH_13 := hidT (keepH cH_12.out hb)
  have mE_11 := hidT (mE_10.out.below hb)
  have mH_11 := hidT (keepH mH_10.out hb)
  have oE_9 := hidT (oE_8.out.below hb)
  have oH_9 := hidT (keepH oH_8.out hb)
  have fE_7 := hidT (fE_6.out.below hb)
  have fH_7 := hidT (keepH fH_6.out hb)
  clear B_18 aL_16 aH_16 bL_14 bH_14 cL_12 cH_12 mE_10 mH_10 oE_8 oH_8 fE_6 fH_6
  clear hb HC c0 c1 c2 c3 c4
  obtain ⟨Ad, nd, cd, Bd, md, dd, evd, -, -, -⟩ := id hl
  have evd' : v = .agg #[.slice Ad nd cd, .int .i64 0, .int .i64 0, .int .i64 0, .slice Bd md dd] := evd
  clear evd
  subst evd'
  have t1 := alloc_at y22 (.cells #[.slice Ad nd cd, .int .i64 0, .int .i64 0, .int .i64 0, .slice Bd md dd] 27) _ rfl
  have t3 := nkeep y22 (.cells #[.slice Ad nd cd, .int .i64 0, .int .i64 0, .int .i64 0, .slice Bd md dd] 27)
  obtain ⟨Vy22, hVy22⟩ : ∃ W, y22.alloc (.cells #[.slice Ad nd cd, .int .i64 0, .int .i64 0, .int .i64 0, .slice Bd md dd] 27) = W := ⟨_, rfl⟩
  rw [hVy22] at t1 t3
  have HVy22 := hidT hVy22
  have B_20 := hidT (bthen B_19.out t3)
  have aL_18 := hidT (aL_17.out.below t3)
  have aH_18 := hidT (keepH aH_17.out t3)
  have bL_16 := hidT (bL_15.out.below t3)
  have bH_16 := hidT (keepH bH_15.out t3)
  have cL_14 := hidT (cL_13.out.below t3)
  have cH_14 := hidT (keepH cH_13.out t3)
  have mE_12 := hidT (mE_11.out.below t3)
  have mH_12 := hidT (keepH mH_11.out t3)
  have oE_10 := hidT (oE_9.out.below t3)
  have oH_10 := hidT (keepH oH_9.out t3)
  have fE_8 := hidT (fE_7.out.below t3)
  have fH_8 := hidT (keepH fH_7.out t3)
  clear B_19 aL_17 aH_17 bL_15 bH_15 cL_13 cH_13 mE_11 mH_11 oE_9 oH_9 fE_7 fH_7
  have dL_0 := hidT (hl.below t3)
  obtain ⟨gy22, hgy22⟩ : ∃ p, y22.heap.size = p := ⟨_, rfl⟩
  rw [hgy22] at t1
  have dH_0 := hidT (t1)
  clear t1 t3 hVy22
  clear hl
  obtain ⟨c0, c1, c2, c3, c4⟩ := cells5 cH_14.out
  have hc := set_any _ _ sh3 she Vy22 cL_14.out (S' := Any) ⟨none, 0, 0, none, 0, 0, rfl, Rd.nil_ _, RdV.nil_ _, Within.zero _ _, Within.zero _ _⟩ sm3 ⟨by decide, by decide⟩ (by decide)
  rw [show Lane.set sh3 she = shs by decide] at hc
  have HC := hidT hc
  clear hc
  rw [← HVy22.out] at c0 c1 c2 c3 c4
  go_wp2_with fail
  rw [HVy22.out]
  clear hgy22
  with_reducible refine HC.out.mono ?_
  rintro e y23 ⟨v, rfl, hl, hb⟩
  have B_21 := hidT (bthen B_20.out hb)
  have aL_19 := hidT (aL_18.out.below hb)
  have aH_19 := hidT (keepH aH_18.out hb)
  have bL_17 := hidT (bL_16.out.below hb)
  have bH_17 := hidT (keepH bH_16.out hb)
  have cL_15 := hidT (cL_14.out.below hb)
  have cH_15 := hidT (keepH cH_14.out hb)
  have mE_13 := hidT (mE_12.out.below hb)
  have mH_13 := hidT (keepH mH_12.out hb)
  have oE_11 := hidT (oE_10.out.below hb)
  have oH_11 := hidT (keepH oH_10.out hb)
  have fE_9 := hidT (fE_8.out.below hb)
  have fH_9 := hidT (keepH fH_8.out hb)
  have dL_1 := hidT (dL_0.out.below hb)
  have dH_1 := hidT (keepH dH_0.out hb)
  clear B_20 aL_18 aH_18 bL_16 bH_16 cL_14 cH_14 mE_12 mH_12 oE_10 oH_10 fE_8 fH_8 dL_0 dH_0
  clear hb HC c0 c1 c2 c3 c4
  obtain ⟨As, ns, cs, Bs, ms, ds, evs, -, -, -⟩ := id hl
  have evs' : v = .agg #[.slice As ns cs, .int .i64 0, .int .i64 0, .int .i64 0, .slice Bs ms ds] := evs
  clear evs
  subst evs'
  have t1 := alloc_at y23 (.cells #[.slice As ns cs, .int .i64 0, .int .i64 0, .int .i64 0, .slice Bs ms ds] 27) _ rfl
  have t3 := nkeep y23 (.cells #[.slice As ns cs, .int .i64 0, .int .i64 0, .int .i64 0, .slice Bs ms ds] 27)
  obtain ⟨Vy23, hVy23⟩ : ∃ W, y23.alloc (.cells #[.slice As ns cs, .int .i64 0, .int .i64 0, .int .i64 0, .slice Bs ms ds] 27) = W := ⟨_, rfl⟩
  rw [hVy23] at t1 t3
  have HVy23 := hidT hVy23
  have B_22 := hidT (bthen B_21.out t3)
  have aL_20 := hidT (aL_19.out.below t3)
  have aH_20 := hidT (keepH aH_19.out t3)
  have bL_18 := hidT (bL_17.out.below t3)
  have bH_18 := hidT (keepH bH_17.out t3)
  have cL_16 := hidT (cL_15.out.below t3)
  have cH_16 := hidT (keepH cH_15.out t3)
  have mE_14 := hidT (mE_13.out.below t3)
  have mH_14 := hidT (keepH mH_13.out t3)
  have oE_12 := hidT (oE_11.out.below t3)
  have oH_12 := hidT (keepH oH_11.out t3)
  have fE_10 := hidT (fE_9.out.below t3)
  have fH_10 := hidT (keepH fH_9.out t3)
  have dL_2 := hidT (dL_1.out.below t3)
  have dH_2 := hidT (keepH dH_1.out t3)
  clear B_21 aL_19 aH_19 bL_17 bH_17 cL_15 cH_15 mE_13 mH_13 oE_11 oH_11 fE_9 fH_9 dL_1 dH_1
  have sL_0 := hidT (hl.below t3)
  obtain ⟨gy23, hgy23⟩ : ∃ p, y23.heap.size = p := ⟨_, rfl⟩
  rw [hgy23] at t1
  have sH_0 := hidT (t1)
  clear t1 t3 hVy23
  clear hl
  have hnd : nd = 1 := by
    obtain ⟨A_, n_, c_, B_, m_, d_, ev, hE, _, _⟩ := dL_2.out
    injection ev with ev
    simp only [Array.mk.injEq, List.cons.injEq, Value.slice.injEq, and_true] at ev
    obtain ⟨⟨_, rfl, _⟩, _⟩ := ev
    exact hE.size.symm
  subst hnd
  have hns : ns = 2 := by
    obtain ⟨A_, n_, c_, B_, m_, d_, ev, hE, _, _⟩ := sL_0.out
    injection ev with ev
    simp only [Array.mk.injEq, List.cons.injEq, Value.slice.injEq, and_true] at ev
    obtain ⟨⟨_, rfl, _⟩, _⟩ := ev
    exact hE.size.symm
  subst hns
  obtain ⟨qb, qo, As_, hqA, hqc⟩ : ∃ (qb qo : Nat) (_ : True), As = some ⟨qb, qo, none⟩ ∧ Vy23.cell? ⟨qb, qo + 9, none⟩ = some (.bool false) := by
    obtain ⟨A_, n_, c_, B_, m_, d_, ev, hE, _, _⟩ := sL_0.out
    injection ev with ev
    simp only [Array.mk.injEq, List.cons.injEq, Value.slice.injEq, and_true] at ev
    obtain ⟨⟨rfl, hn, rfl⟩, _⟩ := ev
    subst hn
    obtain ⟨b, o, x, BA, bn, bc, LA, ln, lc, hA, hx, _, _, _, _, hcs⟩ := hE.told (i := 1) (by omega)
    have hx2 : x = ⟨2, 5, [], [], false⟩ := by simpa using hx.symm
    subst hx2
    have := (hcs _ (Below.refl _ _)).2.2.2.2
    exact ⟨b, o, trivial, hA, by rw [show o + 9 = o + 1 * 5 + 4 by omega]; exact this⟩
  subst hqA
  clear As_
  have qc_0 := hidT (hqc)
  clear hqc
  have mR_0 := hidT ((by
      obtain ⟨BA_, bn_, bc_, LA_, ln_, lc_, ev, hr, _, _, _⟩ := mE_14.out
      injection ev with ev
      simp only [Array.mk.injEq, List.cons.injEq, Value.slice.injEq, and_true] at ev
      obtain ⟨_, _, ⟨rfl, rfl, rfl⟩, _⟩ := ev
      exact hr : Rd Vy23 BAm bnm bcm [97, 98, 99]))
  have hstr : (str [97, 98, 99]).toList = [97, 98, 99] := by rw [ByteArray.toList_eq]; rfl
  have HSTR := hidT hstr
  clear hstr
  obtain ⟨a0_, a1_, a2_, a3_, a4_⟩ := cells5 aH_20.out
  obtain ⟨b0_, b1_, b2_, b3_, b4_⟩ := cells5 bH_18.out
  obtain ⟨c0_, c1_, c2_, c3_, c4_⟩ := cells5 cH_16.out
  obtain ⟨d0_, d1_, d2_, d3_, d4_⟩ := cells5 dH_2.out
  obtain ⟨s0_, s1_, s2_, s3_, s4_⟩ := cells5 sH_0.out
  obtain ⟨m0_, m1_, m2_, m3_, m4_⟩ := cells5 mH_14.out
  obtain ⟨o0_, o1_, o2_, o3_, o4_⟩ := cells5 oH_12.out
  obtain ⟨f0_, f1_, f2_, f3_, f4_⟩ := cells5 fH_10.out
  have qcell := qc_0.out
  have mstr := strs mR_0.out Vy23 (Below.refl _ _)
  have hc := done_any _ sh1 4 Vy23 aL_20.out (by decide) (by decide) (by decide) 2 (by decide)
  have HC := hidT hc
  clear hc
  have hstr := HSTR.out
  rw [← HVy23.out] at a0_ a1_ a2_ a3_ a4_ b0_ b1_ b2_ b3_ b4_ c0_ c1_ c2_ c3_ c4_ d0_ d1_ d2_ d3_ d4_ s0_ s1_ s2_ s3_ s4_ m0_ m1_ m2_ m3_ m4_ o0_ o1_ o2_ o3_ o4_ f0_ f1_ f2_ f3_ f4_ qcell mstr
  go_wp2_with fail
  rw [HVy23.out]
  clear hgy23
  with_reducible refine HC.out.mono ?_
  rintro e z1 ⟨rfl, hb0⟩
  have hb := hb0
  have B_23 := hidT (bthen B_22.out hb)
  have aL_21 := hidT (aL_20.out.below hb)
  have aH_21 := hidT (keepH aH_20.out hb)
  have bL_19 := hidT (bL_18.out.below hb)
  have bH_19 := hidT (keepH bH_18.out hb)
  have cL_17 := hidT (cL_16.out.below hb)
  have cH_17 := hidT (keepH cH_16.out hb)
  have mE_15 := hidT (mE_14.out.below hb)
  have mH_15 := hidT (keepH mH_14.out hb)
  have oE_13 := hidT (oE_12.out.below hb)
  have oH_13 := hidT (keepH oH_12.out hb)
  have fE_11 := hidT (fE_10.out.below hb)
  have fH_11 := hidT (keepH fH_10.out hb)
  have dL_3 := hidT (dL_2.out.below hb)
  have dH_3 := hidT (keepH dH_2.out hb)
  have sL_1 := hidT (sL_0.out.below hb)
  have sH_1 := hidT (keepH sH_0.out hb)
  have qc_1 := hidT (kcell qc_0.out hb)
  have mR_1 := hidT (mR_0.out.below hb)
  clear B_22 aL_20 aH_20 bL_18 bH_18 cL_16 cH_16 mE_14 mH_14 oE_12 oH_12 fE_10 fH_10 dL_2 dH_2 sL_0 sH_0 qc_0 mR_0
  clear hb hb0 HC hstr a0_ a1_ a2_ a3_ a4_ b0_ b1_ b2_ b3_ b4_ c0_ c1_ c2_ c3_ c4_ d0_ d1_ d2_ d3_ d4_ s0_ s1_ s2_ s3_ s4_ m0_ m1_ m2_ m3_ m4_ o0_ o1_ o2_ o3_ o4_ f0_ f1_ f2_ f3_ f4_ qcell mstr
  obtain ⟨a0_, a1_, a2_, a3_, a4_⟩ := cells5 aH_21.out
  obtain ⟨b0_, b1_, b2_, b3_, b4_⟩ := cells5 bH_19.out
  obtain ⟨c0_, c1_, c2_, c3_, c4_⟩ := cells5 cH_17.out
  obtain ⟨d0_, d1_, d2_, d3_, d4_⟩ := cells5 dH_3.out
  obtain ⟨s0_, s1_, s2_, s3_, s4_⟩ := cells5 sH_1.out
  obtain ⟨m0_, m1_, m2_, m3_, m4_⟩ := cells5 mH_15.out
  obtain ⟨o0_, o1_, o2_, o3_, o4_⟩ := cells5 oH_13.out
  obtain ⟨f0_, f1_, f2_, f3_, f4_⟩ := cells5 fH_11.out
  have qcell := qc_1.out
  have mstr := strs mR_1.out z1 (Below.refl _ _)
  have hc := done_any _ sh2 4 z1 bL_19.out (by decide) (by decide) (by decide) 2 (by decide)
  have HC := hidT hc
  clear hc
  have hstr := HSTR.out
  go_wp2_with fail
  with_reducible refine HC.out.mono ?_
  rintro e z2 ⟨rfl, hb0⟩
  have hb := hb0
  have B_24 := hidT (bthen B_23.out hb)
  have aL_22 := hidT (aL_21.out.below hb)
  have aH_22 := hidT (keepH aH_21.out hb)
  have bL_20 := hidT (bL_19.out.below hb)
  have bH_20 := hidT (keepH bH_19.out hb)
  have cL_18 := hidT (cL_17.out.below hb)
  have cH_18 := hidT (keepH cH_17.out hb)
  have mE_16 := hidT (mE_15.out.below hb)
  have mH_16 := hidT (keepH mH_15.out hb)
  have oE_14 := hidT (oE_13.out.below hb)
  have oH_14 := hidT (keepH oH_13.out hb)
  have fE_12 := hidT (fE_11.out.below hb)
  have fH_12 := hidT (keepH fH_11.out hb)
  have dL_4 := hidT (dL_3.out.below hb)
  have dH_4 := hidT (keepH dH_3.out hb)
  have sL_2 := hidT (sL_1.out.below hb)
  have sH_2 := hidT (keepH sH_1.out hb)
  have qc_2 := hidT (kcell qc_1.out hb)
  have mR_2 := hidT (mR_1.out.below hb)
  clear B_23 aL_21 aH_21 bL_19 bH_19 cL_17 cH_17 mE_15 mH_15 oE_13 oH_13 fE_11 fH_11 dL_3 dH_3 sL_1 sH_1 qc_1 mR_1
  clear hb hb0 HC hstr a0_ a1_ a2_ a3_ a4_ b0_ b1_ b2_ b3_ b4_ c0_ c1_ c2_ c3_ c4_ d0_ d1_ d2_ d3_ d4_ s0_ s1_ s2_ s3_ s4_ m0_ m1_ m2_ m3_ m4_ o0_ o1_ o2_ o3_ o4_ f0_ f1_ f2_ f3_ f4_ qcell mstr
  obtain ⟨a0_, a1_, a2_, a3_, a4_⟩ := cells5 aH_22.out
  obtain ⟨b0_, b1_, b2_, b3_, b4_⟩ := cells5 bH_20.out
  obtain ⟨c0_, c1_, c2_, c3_, c4_⟩ := cells5 cH_18.out
  obtain ⟨d0_, d1_, d2_, d3_, d4_⟩ := cells5 dH_4.out
  obtain ⟨s0_, s1_, s2_, s3_, s4_⟩ := cells5 sH_2.out
  obtain ⟨m0_, m1_, m2_, m3_, m4_⟩ := cells5 mH_16.out
  obtain ⟨o0_, o1_, o2_, o3_, o4_⟩ := cells5 oH_14.out
  obtain ⟨f0_, f1_, f2_, f3_, f4_⟩ := cells5 fH_12.out
  have qcell := qc_2.out
  have mstr := strs mR_2.out z2 (Below.refl _ _)
  have hc := done_any _ shd 9 z2 dL_4.out (by decide) (by decide) (by decide) 4 (by decide)
  have HC := hidT hc
  clear hc
  have hstr := HSTR.out
  go_wp2_with fail
  with_reducible refine HC.out.mono ?_
  rintro e z3 ⟨rfl, hb0⟩
  have hb := hb0
  have B_25 := hidT (bthen B_24.out hb)
  have aL_23 := hidT (aL_22.out.below hb)
  have aH_23 := hidT (keepH aH_22.out hb)
  have bL_21 := hidT (bL_20.out.below hb)
  have bH_21 := hidT (keepH bH_20.out hb)
  have cL_19 := hidT (cL_18.out.below hb)
  have cH_19 := hidT (keepH cH_18.out hb)
  have mE_17 := hidT (mE_16.out.below hb)
  have mH_17 := hidT (keepH mH_16.out hb)
  have oE_15 := hidT (oE_14.out.below hb)
  have oH_15 := hidT (keepH oH_14.out hb)
  have fE_13 := hidT (fE_12.out.below hb)
  have fH_13 := hidT (keepH fH_12.out hb)
  have dL_5 := hidT (dL_4.out.below hb)
  have dH_5 := hidT (keepH dH_4.out hb)
  have sL_3 := hidT (sL_2.out.below hb)
  have sH_3 := hidT (keepH sH_2.out hb)
  have qc_3 := hidT (kcell qc_2.out hb)
  have mR_3 := hidT (mR_2.out.below hb)
  clear B_24 aL_22 aH_22 bL_20 bH_20 cL_18 cH_18 mE_16 mH_16 oE_14 oH_14 fE_12 fH_12 dL_4 dH_4 sL_2 sH_2 qc_2 mR_2
  clear hb hb0 HC hstr a0_ a1_ a2_ a3_ a4_ b0_ b1_ b2_ b3_ b4_ c0_ c1_ c2_ c3_ c4_ d0_ d1_ d2_ d3_ d4_ s0_ s1_ s2_ s3_ s4_ m0_ m1_ m2_ m3_ m4_ o0_ o1_ o2_ o3_ o4_ f0_ f1_ f2_ f3_ f4_ qcell mstr
  obtain ⟨a0_, a1_, a2_, a3_, a4_⟩ := cells5 aH_23.out
  obtain ⟨b0_, b1_, b2_, b3_, b4_⟩ := cells5 bH_21.out
  obtain ⟨c0_, c1_, c2_, c3_, c4_⟩ := cells5 cH_19.out
  obtain ⟨d0_, d1_, d2_, d3_, d4_⟩ := cells5 dH_5.out
  obtain ⟨s0_, s1_, s2_, s3_, s4_⟩ := cells5 sH_3.out
  obtain ⟨m0_, m1_, m2_, m3_, m4_⟩ := cells5 mH_17.out
  obtain ⟨o0_, o1_, o2_, o3_, o4_⟩ := cells5 oH_15.out
  obtain ⟨f0_, f1_, f2_, f3_, f4_⟩ := cells5 fH_13.out
  have qcell := qc_3.out
  have mstr := strs mR_3.out z3 (Below.refl _ _)
  have hc := many_any _ sh3 z3 cL_19.out
  have HC := hidT hc
  clear hc
  have hstr := HSTR.out
  go_wp2_with fail
  with_reducible refine HC.out.mono ?_
  rintro e z4 ⟨rfl, hb0⟩
  have hb := hb0
  have B_26 := hidT (bthen B_25.out hb)
  have aL_24 := hidT (aL_23.out.below hb)
  have aH_24 := hidT (keepH aH_23.out hb)
  have bL_22 := hidT (bL_21.out.below hb)
  have bH_22 := hidT (keepH bH_21.out hb)
  have cL_20 := hidT (cL_19.out.below hb)
  have cH_20 := hidT (keepH cH_19.out hb)
  have mE_18 := hidT (mE_17.out.below hb)
  have mH_18 := hidT (keepH mH_17.out hb)
  have oE_16 := hidT (oE_15.out.below hb)
  have oH_16 := hidT (keepH oH_15.out hb)
  have fE_14 := hidT (fE_13.out.below hb)
  have fH_14 := hidT (keepH fH_13.out hb)
  have dL_6 := hidT (dL_5.out.below hb)
  have dH_6 := hidT (keepH dH_5.out hb)
  have sL_4 := hidT (sL_3.out.below hb)
  have sH_4 := hidT (keepH sH_3.out hb)
  have qc_4 := hidT (kcell qc_3.out hb)
  have mR_4 := hidT (mR_3.out.below hb)
  clear B_25 aL_23 aH_23 bL_21 bH_21 cL_19 cH_19 mE_17 mH_17 oE_15 oH_15 fE_13 fH_13 dL_5 dH_5 sL_3 sH_3 qc_3 mR_3
  clear hb hb0 HC hstr a0_ a1_ a2_ a3_ a4_ b0_ b1_ b2_ b3_ b4_ c0_ c1_ c2_ c3_ c4_ d0_ d1_ d2_ d3_ d4_ s0_ s1_ s2_ s3_ s4_ m0_ m1_ m2_ m3_ m4_ o0_ o1_ o2_ o3_ o4_ f0_ f1_ f2_ f3_ f4_ qcell mstr
  obtain ⟨a0_, a1_, a2_, a3_, a4_⟩ := cells5 aH_24.out
  obtain ⟨b0_, b1_, b2_, b3_, b4_⟩ := cells5 bH_22.out
  obtain ⟨c0_, c1_, c2_, c3_, c4_⟩ := cells5 cH_20.out
  obtain ⟨d0_, d1_, d2_, d3_, d4_⟩ := cells5 dH_6.out
  obtain ⟨s0_, s1_, s2_, s3_, s4_⟩ := cells5 sH_4.out
  obtain ⟨m0_, m1_, m2_, m3_, m4_⟩ := cells5 mH_18.out
  obtain ⟨o0_, o1_, o2_, o3_, o4_⟩ := cells5 oH_16.out
  obtain ⟨f0_, f1_, f2_, f3_, f4_⟩ := cells5 fH_14.out
  have qcell := qc_4.out
  have mstr := strs mR_4.out z4 (Below.refl _ _)
  have hc := right_any _ sh3 z4 cL_20.out true (by decide)
  have HC := hidT hc
  clear hc
  have hstr := HSTR.out
  go_wp2_with fail
  with_reducible refine HC.out.mono ?_
  rintro e z5 ⟨rfl, hb0⟩
  have hb := hb0
  have B_27 := hidT (bthen B_26.out hb)
  have aL_25 := hidT (aL_24.out.below hb)
  have aH_25 := hidT (keepH aH_24.out hb)
  have bL_23 := hidT (bL_22.out.below hb)
  have bH_23 := hidT (keepH bH_22.out hb)
  have cL_21 := hidT (cL_20.out.below hb)
  have cH_21 := hidT (keepH cH_20.out hb)
  have mE_19 := hidT (mE_18.out.below hb)
  have mH_19 := hidT (keepH mH_18.out hb)
  have oE_17 := hidT (oE_16.out.below hb)
  have oH_17 := hidT (keepH oH_16.out hb)
  have fE_15 := hidT (fE_14.out.below hb)
  have fH_15 := hidT (keepH fH_14.out hb)
  have dL_7 := hidT (dL_6.out.below hb)
  have dH_7 := hidT (keepH dH_6.out hb)
  have sL_5 := hidT (sL_4.out.below hb)
  have sH_5 := hidT (keepH sH_4.out hb)
  have qc_5 := hidT (kcell qc_4.out hb)
  have mR_5 := hidT (mR_4.out.below hb)
  clear B_26 aL_24 aH_24 bL_22 bH_22 cL_20 cH_20 mE_18 mH_18 oE_16 oH_16 fE_14 fH_14 dL_6 dH_6 sL_4 sH_4 qc_4 mR_4
  clear hb hb0 HC hstr a0_ a1_ a2_ a3_ a4_ b0_ b1_ b2_ b3_ b4_ c0_ c1_ c2_ c3_ c4_ d0_ d1_ d2_ d3_ d4_ s0_ s1_ s2_ s3_ s4_ m0_ m1_ m2_ m3_ m4_ o0_ o1_ o2_ o3_ o4_ f0_ f1_ f2_ f3_ f4_ qcell mstr
  have nk := nkeep z5 (.cells ez 33)
  have HNK := hidT nk
  obtain ⟨a0_, a1_, a2_, a3_, a4_⟩ := cells5 aH_25.out
  obtain ⟨b0_, b1_, b2_, b3_, b4_⟩ := cells5 bH_23.out
  obtain ⟨c0_, c1_, c2_, c3_, c4_⟩ := cells5 cH_21.out
  obtain ⟨d0_, d1_, d2_, d3_, d4_⟩ := cells5 dH_7.out
  obtain ⟨s0_, s1_, s2_, s3_, s4_⟩ := cells5 sH_5.out
  obtain ⟨m0_, m1_, m2_, m3_, m4_⟩ := cells5 mH_19.out
  obtain ⟨o0_, o1_, o2_, o3_, o4_⟩ := cells5 oH_17.out
  obtain ⟨f0_, f1_, f2_, f3_, f4_⟩ := cells5 fH_15.out
  have qcell := qc_5.out
  have mstr := strs mR_5.out z5 (Below.refl _ _)
  have hc := right_any (S := Any) (.agg #[.slice (some ⟨z5.heap.size, 0, none⟩) 1 1, .int .i64 0, .int .i64 0, .int .i64 0, .slice none 0 0]) shz (z5.alloc (.cells ez 33)) ⟨_, _, _, _, _, _, rfl, ⟨[ez], RdK.lit (k := 5) z5 33 (0, 0) ez [ez] (AllK.one rfl (by kernel_rfl)) (by simp [flat]) 1 rfl (by simp only [maxLen]; omega) _ rfl, AreE.one (IsEn.zero _ _), Within.any _ _⟩, Rd.nil_ _, Within.any _ _⟩ false (by decide)
  have HC := hidT hc
  clear hc
  have hstr := HSTR.out
  go_wp2_with fail
  with_reducible refine HC.out.mono ?_
  rintro e z6 ⟨rfl, hb0⟩
  have hb := bthen HNK.out hb0
  have B_28 := hidT (bthen B_27.out hb)
  have aL_26 := hidT (aL_25.out.below hb)
  have aH_26 := hidT (keepH aH_25.out hb)
  have bL_24 := hidT (bL_23.out.below hb)
  have bH_24 := hidT (keepH bH_23.out hb)
  have cL_22 := hidT (cL_21.out.below hb)
  have cH_22 := hidT (keepH cH_21.out hb)
  have mE_20 := hidT (mE_19.out.below hb)
  have mH_20 := hidT (keepH mH_19.out hb)
  have oE_18 := hidT (oE_17.out.below hb)
  have oH_18 := hidT (keepH oH_17.out hb)
  have fE_16 := hidT (fE_15.out.below hb)
  have fH_16 := hidT (keepH fH_15.out hb)
  have dL_8 := hidT (dL_7.out.below hb)
  have dH_8 := hidT (keepH dH_7.out hb)
  have sL_6 := hidT (sL_5.out.below hb)
  have sH_6 := hidT (keepH sH_5.out hb)
  have qc_6 := hidT (kcell qc_5.out hb)
  have mR_6 := hidT (mR_5.out.below hb)
  clear B_27 aL_25 aH_25 bL_23 bH_23 cL_21 cH_21 mE_19 mH_19 oE_17 oH_17 fE_15 fH_15 dL_7 dH_7 sL_5 sH_5 qc_5 mR_5
  clear hb hb0 HC hstr a0_ a1_ a2_ a3_ a4_ b0_ b1_ b2_ b3_ b4_ c0_ c1_ c2_ c3_ c4_ d0_ d1_ d2_ d3_ d4_ s0_ s1_ s2_ s3_ s4_ m0_ m1_ m2_ m3_ m4_ o0_ o1_ o2_ o3_ o4_ f0_ f1_ f2_ f3_ f4_ qcell mstr nk HNK
  obtain ⟨a0_, a1_, a2_, a3_, a4_⟩ := cells5 aH_26.out
  obtain ⟨b0_, b1_, b2_, b3_, b4_⟩ := cells5 bH_24.out
  obtain ⟨c0_, c1_, c2_, c3_, c4_⟩ := cells5 cH_22.out
  obtain ⟨d0_, d1_, d2_, d3_, d4_⟩ := cells5 dH_8.out
  obtain ⟨s0_, s1_, s2_, s3_, s4_⟩ := cells5 sH_6.out
  obtain ⟨m0_, m1_, m2_, m3_, m4_⟩ := cells5 mH_20.out
  obtain ⟨o0_, o1_, o2_, o3_, o4_⟩ := cells5 oH_18.out
  obtain ⟨f0_, f1_, f2_, f3_, f4_⟩ := cells5 fH_16.out
  have qcell := qc_6.out
  have mstr := strs mR_6.out z6 (Below.refl _ _)
  have hc := same_any _ _ sh3 sh3 z6 cL_22.out cL_22.out true (by decide)
  have HC := hidT hc
  clear hc
  have hstr := HSTR.out
  go_wp2_with fail
  with_reducible refine HC.out.mono ?_
  rintro e z7 ⟨rfl, hb0⟩
  have hb := hb0
  have B_29 := hidT (bthen B_28.out hb)
  have aL_27 := hidT (aL_26.out.below hb)
  have aH_27 := hidT (keepH aH_26.out hb)
  have bL_25 := hidT (bL_24.out.below hb)
  have bH_25 := hidT (keepH bH_24.out hb)
  have cL_23 := hidT (cL_22.out.below hb)
  have cH_23 := hidT (keepH cH_22.out hb)
  have mE_21 := hidT (mE_20.out.below hb)
  have mH_21 := hidT (keepH mH_20.out hb)
  have oE_19 := hidT (oE_18.out.below hb)
  have oH_19 := hidT (keepH oH_18.out hb)
  have fE_17 := hidT (fE_16.out.below hb)
  have fH_17 := hidT (keepH fH_16.out hb)
  have dL_9 := hidT (dL_8.out.below hb)
  have dH_9 := hidT (keepH dH_8.out hb)
  have sL_7 := hidT (sL_6.out.below hb)
  have sH_7 := hidT (keepH sH_6.out hb)
  have qc_7 := hidT (kcell qc_6.out hb)
  have mR_7 := hidT (mR_6.out.below hb)
  clear B_28 aL_26 aH_26 bL_24 bH_24 cL_22 cH_22 mE_20 mH_20 oE_18 oH_18 fE_16 fH_16 dL_8 dH_8 sL_6 sH_6 qc_6 mR_6
  clear hb hb0 HC hstr a0_ a1_ a2_ a3_ a4_ b0_ b1_ b2_ b3_ b4_ c0_ c1_ c2_ c3_ c4_ d0_ d1_ d2_ d3_ d4_ s0_ s1_ s2_ s3_ s4_ m0_ m1_ m2_ m3_ m4_ o0_ o1_ o2_ o3_ o4_ f0_ f1_ f2_ f3_ f4_ qcell mstr
  obtain ⟨a0_, a1_, a2_, a3_, a4_⟩ := cells5 aH_27.out
  obtain ⟨b0_, b1_, b2_, b3_, b4_⟩ := cells5 bH_25.out
  obtain ⟨c0_, c1_, c2_, c3_, c4_⟩ := cells5 cH_23.out
  obtain ⟨d0_, d1_, d2_, d3_, d4_⟩ := cells5 dH_9.out
  obtain ⟨s0_, s1_, s2_, s3_, s4_⟩ := cells5 sH_7.out
  obtain ⟨m0_, m1_, m2_, m3_, m4_⟩ := cells5 mH_21.out
  obtain ⟨o0_, o1_, o2_, o3_, o4_⟩ := cells5 oH_19.out
  obtain ⟨f0_, f1_, f2_, f3_, f4_⟩ := cells5 fH_17.out
  have qcell := qc_7.out
  have mstr := strs mR_7.out z7 (Below.refl _ _)
  have hc := same_any _ _ sh3 shd z7 cL_23.out dL_9.out false (by decide)
  have HC := hidT hc
  clear hc
  have hstr := HSTR.out
  go_wp2_with fail
  with_reducible refine HC.out.mono ?_
  rintro e z8 ⟨rfl, hb0⟩
  have hb := hb0
  have B_30 := hidT (bthen B_29.out hb)
  have aL_28 := hidT (aL_27.out.below hb)
  have aH_28 := hidT (keepH aH_27.out hb)
  have bL_26 := hidT (bL_25.out.below hb)
  have bH_26 := hidT (keepH bH_25.out hb)
  have cL_24 := hidT (cL_23.out.below hb)
  have cH_24 := hidT (keepH cH_23.out hb)
  have mE_22 := hidT (mE_21.out.below hb)
  have mH_22 := hidT (keepH mH_21.out hb)
  have oE_20 := hidT (oE_19.out.below hb)
  have oH_20 := hidT (keepH oH_19.out hb)
  have fE_18 := hidT (fE_17.out.below hb)
  have fH_18 := hidT (keepH fH_17.out hb)
  have dL_10 := hidT (dL_9.out.below hb)
  have dH_10 := hidT (keepH dH_9.out hb)
  have sL_8 := hidT (sL_7.out.below hb)
  have sH_8 := hidT (keepH sH_7.out hb)
  have qc_8 := hidT (kcell qc_7.out hb)
  have mR_8 := hidT (mR_7.out.below hb)
  clear B_29 aL_27 aH_27 bL_25 bH_25 cL_23 cH_23 mE_21 mH_21 oE_19 oH_19 fE_17 fH_17 dL_9 dH_9 sL_7 sH_7 qc_7 mR_7
  clear hb hb0 HC hstr a0_ a1_ a2_ a3_ a4_ b0_ b1_ b2_ b3_ b4_ c0_ c1_ c2_ c3_ c4_ d0_ d1_ d2_ d3_ d4_ s0_ s1_ s2_ s3_ s4_ m0_ m1_ m2_ m3_ m4_ o0_ o1_ o2_ o3_ o4_ f0_ f1_ f2_ f3_ f4_ qcell mstr
  obtain ⟨a0_, a1_, a2_, a3_, a4_⟩ := cells5 aH_28.out
  obtain ⟨b0_, b1_, b2_, b3_, b4_⟩ := cells5 bH_26.out
  obtain ⟨c0_, c1_, c2_, c3_, c4_⟩ := cells5 cH_24.out
  obtain ⟨d0_, d1_, d2_, d3_, d4_⟩ := cells5 dH_10.out
  obtain ⟨s0_, s1_, s2_, s3_, s4_⟩ := cells5 sH_8.out
  obtain ⟨m0_, m1_, m2_, m3_, m4_⟩ := cells5 mH_22.out
  obtain ⟨o0_, o1_, o2_, o3_, o4_⟩ := cells5 oH_20.out
  obtain ⟨f0_, f1_, f2_, f3_, f4_⟩ := cells5 fH_18.out
  have qcell := qc_8.out
  have mstr := strs mR_8.out z8 (Below.refl _ _)
  have hc := done_any (S := Any) _ Lane.Ln.zero 7 z8 (IsLane.zero Any z8) (by decide) (by decide) (by decide) 7 (by decide)
  have HC := hidT hc
  clear hc
  have hstr := HSTR.out
  go_wp2_with fail
  with_reducible refine HC.out.mono ?_
  rintro e z9 ⟨rfl, hb0⟩
  have hb := hb0
  have B_31 := hidT (bthen B_30.out hb)
  have aL_29 := hidT (aL_28.out.below hb)
  have aH_29 := hidT (keepH aH_28.out hb)
  have bL_27 := hidT (bL_26.out.below hb)
  have bH_27 := hidT (keepH bH_26.out hb)
  have cL_25 := hidT (cL_24.out.below hb)
  have cH_25 := hidT (keepH cH_24.out hb)
  have mE_23 := hidT (mE_22.out.below hb)
  have mH_23 := hidT (keepH mH_22.out hb)
  have oE_21 := hidT (oE_20.out.below hb)
  have oH_21 := hidT (keepH oH_20.out hb)
  have fE_19 := hidT (fE_18.out.below hb)
  have fH_19 := hidT (keepH fH_18.out hb)
  have dL_11 := hidT (dL_10.out.below hb)
  have dH_11 := hidT (keepH dH_10.out hb)
  have sL_9 := hidT (sL_8.out.below hb)
  have sH_9 := hidT (keepH sH_8.out hb)
  have qc_9 := hidT (kcell qc_8.out hb)
  have mR_9 := hidT (mR_8.out.below hb)
  clear B_30 aL_28 aH_28 bL_26 bH_26 cL_24 cH_24 mE_22 mH_22 oE_20 oH_20 fE_18 fH_18 dL_10 dH_10 sL_8 sH_8 qc_8 mR_8
  clear hb hb0 HC hstr a0_ a1_ a2_ a3_ a4_ b0_ b1_ b2_ b3_ b4_ c0_ c1_ c2_ c3_ c4_ d0_ d1_ d2_ d3_ d4_ s0_ s1_ s2_ s3_ s4_ m0_ m1_ m2_ m3_ m4_ o0_ o1_ o2_ o3_ o4_ f0_ f1_ f2_ f3_ f4_ qcell mstr
  go_wp2
  go_ret
  exact ⟨rfl, B_31.out⟩
end Go.Proofs.Ytmlmkkfieeaejaa
