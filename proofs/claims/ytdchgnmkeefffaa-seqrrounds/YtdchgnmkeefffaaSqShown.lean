/- The document's example of package seqr. -/
import Derived.Test.YtdchgnmkeefffaaSq5
import Derived.Test.YtdchgnmkeefffaaSq6
import Derived.Test.YtdchgnmkeefffaaRSq1
import Derived.Test.YtdchgnmkeefffaaSqApp
import Derived.Test.YtdchgnmkeefffaaLBX
import Derived.Lib.SlBytesConst
set_option maxRecDepth 100000
namespace Go.Proofs.Ytdchgnmkeefffaa
open Go.RowKit
set_option linter.unusedVariables false

abbrev sm97 : Lane.En := ⟨1, 1, [97], [], false⟩
abbrev sm98 : Lane.En := ⟨1, 1, [98], [], false⟩
abbrev so2 : Lane.En := ⟨2, 2, [], [1, 0, 0], true⟩
abbrev sls1 : List Lane.Ln := [⟨[sm97], none_⟩, ⟨[sm98], none_⟩]
abbrev sls2 : List Lane.Ln := [⟨[sm97, so2], none_⟩, ⟨[sm98], none_⟩]
abbrev sls3 : List Lane.Ln := [⟨[⟨2, 2, [], [0], true⟩], none_⟩, ⟨[], none_⟩]
theorem say1 : Seqr.say ⟨0, 0⟩ sls1 0 8 = some (Seqr.orderOf [0, 1] 0) := by decide
theorem say2 : Seqr.say ⟨0, 0⟩ sls1 1 8 = none := by decide
theorem say3 : Seqr.say ⟨0, 7⟩ sls1 0 8 = some (Seqr.orderOf [0] 1) := by decide
theorem walk1 : Seqr.walk ⟨0, 0⟩ sls2 = (⟨0, 2⟩, sls3, [⟨1, [98]⟩, ⟨0, [97]⟩]) := by decide
theorem smLs {ls : List Lane.Ln} (h : ls.all (fun l => decide (l.es.length ≤ 65536) && l.es.all (fun x => decide (x.l.length ≤ 65536) && decide (x.b.length ≤ 65536)) && decide (l.p.b.length ≤ 65536)) = true) : SmallLs ls := fun l hl => by
  have h1 := List.all_eq_true.1 h l hl
  simp only [Bool.and_eq_true, decide_eq_true_eq, List.all_eq_true] at h1
  exact ⟨h1.1.1, fun x hx => h1.1.2 x hx, h1.2⟩
theorem kc_lit (w : World) (g : Nat) (hg : w.heap.size = g) (C : Array Value) (n c : Nat) : (convert 33 33 (.slice (some ⟨g, 0, none⟩) n c)).run Try.prog (w.alloc (.cells C 5)) = .ok (.slice (some ⟨g, 0, none⟩) n c) (w.alloc (.cells C 5 (C.size, C.size + 1))) := by
  subst hg
  exact Lib.run_convert_bytes_const (P := Try.prog) w _ _ C n c Try.underlying33 Try.underlying5
/-- A row of one entry, of two lanes, that were just laid. -/
theorem RdE.mk1 {w : World} {g : Nat} {v0 v1 v2 v3 v4 : Value} {x : Lane.En} (h : w.heap[g]? = some (.cells #[v0, v1, v2, v3, v4] 59 (0, 0))) (ho : (#[v0, v1, v2, v3, v4] : Array Value).all (·.oneCell') = true) (hx : IsEn (fun _ => True) w (.agg #[v0, v1, v2, v3, v4]) x) : RdE (fun _ => True) w (some ⟨g, 0, none⟩) 1 1 [x] :=
  ⟨[#[v0, v1, v2, v3, v4]], ⟨AllK.one rfl ho, rfl, Nat.le_refl _, by decide, (fun h => by cases h), fun _ => ⟨g, 0, rfl, fun i u hu => by rw [Nat.zero_add]; exact cell_at h i (by simpa [flat] using hu)⟩⟩, AreE.one hx, Within.any _ _⟩
theorem RdL.mk2 {w : World} {g n c m d : Nat} {A B : Option Addr} {xs ys : List Lane.En} (h : w.heap[g]? = some (.cells #[.slice A n c, .int .i64 0, .int .i64 0, .int .i64 0, .slice none 0 0, .slice B m d, .int .i64 0, .int .i64 0, .int .i64 0, .slice none 0 0] 51 (0, 0)))
    (hA : RdE (fun _ => True) w A n c xs) (hB : RdE (fun _ => True) w B m d ys) : RdL (fun _ => True) w (some ⟨g, 0, none⟩) 2 2 [⟨xs, none_⟩, ⟨ys, none_⟩] := by
  refine ⟨[#[.slice A n c, .int .i64 0, .int .i64 0, .int .i64 0, .slice none 0 0], #[.slice B m d, .int .i64 0, .int .i64 0, .int .i64 0, .slice none 0 0]], ⟨(AllK.one rfl (by simp [Value.oneCell'])).app (ss := [_]) (AllK.one rfl (by simp [Value.oneCell'])), rfl, Nat.le_refl _, by decide, (fun h => by cases h), fun _ => ⟨g, 0, rfl, fun i u hu => by rw [Nat.zero_add]; exact cell_at h i (by simpa [flat] using hu)⟩⟩, ?_, Within.any _ _⟩
  have h1 : AreL (fun _ => True) w [#[.slice A n c, .int .i64 0, .int .i64 0, .int .i64 0, .slice none 0 0]] [⟨xs, none_⟩] := AreL.one ⟨A, n, c, none, 0, 0, rfl, hA, Rd.nil_ w, Within.zero _ _⟩
  have h2 : AreL (fun _ => True) w [#[.slice B m d, .int .i64 0, .int .i64 0, .int .i64 0, .slice none 0 0]] [⟨ys, none_⟩] := AreL.one ⟨B, m, d, none, 0, 0, rfl, hB, Rd.nil_ w, Within.zero _ _⟩
  exact h1.app h2
/-- The two lanes of the example. -/
structure ShAt (w : World) (g0 : Nat) : Prop where
  e1 : w.heap[g0 + 1]? = some (.cells #[.int .i64 1, .int .i64 1, .slice (some ⟨g0, 0, none⟩) 1 1, .slice none 0 0, .bool false] 59)
  l : w.heap[g0 + 4]? = some (.cells #[.slice (some ⟨g0 + 1, 0, none⟩) 1 1, .int .i64 0, .int .i64 0, .int .i64 0, .slice none 0 0, .slice (some ⟨g0 + 3, 0, none⟩) 1 1, .int .i64 0, .int .i64 0, .int .i64 0, .slice none 0 0] 51)
  b1 : Rd w (some ⟨g0, 0, none⟩) 1 1 [97]
  e2 : w.heap[g0 + 3]? = some (.cells #[.int .i64 1, .int .i64 1, .slice (some ⟨g0 + 2, 0, none⟩) 1 1, .slice none 0 0, .bool false] 59)
  b2 : Rd w (some ⟨g0 + 2, 0, none⟩) 1 1 [98]
theorem ShAt.below {w w' : World} {g0 : Nat} (h : ShAt w g0) (hb : Below w.heap.size w w') : ShAt w' g0 := ⟨keepH h.e1 hb, keepH h.l hb, h.b1.below hb, keepH h.e2 hb, h.b2.below hb⟩
theorem ShAt.r1 {w : World} {g0 : Nat} (h : ShAt w g0) : RdE (fun _ => True) w (some ⟨g0 + 1, 0, none⟩) 1 1 [sm97] := RdE.mk1 h.e1 (by simp [Value.oneCell']) ⟨_, _, _, _, _, _, rfl, h.b1, RdV.nil_ w, Within.any _ _, Within.zero _ _⟩
theorem ShAt.r2 {w : World} {g0 : Nat} (h : ShAt w g0) : RdE (fun _ => True) w (some ⟨g0 + 3, 0, none⟩) 1 1 [sm98] := RdE.mk1 h.e2 (by simp [Value.oneCell']) ⟨_, _, _, _, _, _, rfl, h.b2, RdV.nil_ w, Within.any _ _, Within.zero _ _⟩
theorem ShAt.rdl {w : World} {g0 : Nat} (h : ShAt w g0) : RdL (fun _ => True) w (some ⟨g0 + 4, 0, none⟩) 2 2 sls1 := RdL.mk2 h.l h.r1 h.r2
theorem shLit (w : World) (g0 : Nat) (hg : w.heap.size = g0) : ShAt (((((w.alloc (.cells #[.int .u8 97] 5 (1, 2))).alloc (.cells #[.int .i64 1, .int .i64 1, .slice (some ⟨g0, 0, none⟩) 1 1, .slice none 0 0, .bool false] 59)).alloc (.cells #[.int .u8 98] 5 (1, 2))).alloc (.cells #[.int .i64 1, .int .i64 1, .slice (some ⟨g0 + 2, 0, none⟩) 1 1, .slice none 0 0, .bool false] 59)).alloc (.cells #[.slice (some ⟨g0 + 1, 0, none⟩) 1 1, .int .i64 0, .int .i64 0, .int .i64 0, .slice none 0 0, .slice (some ⟨g0 + 3, 0, none⟩) 1 1, .int .i64 0, .int .i64 0, .int .i64 0, .slice none 0 0] 51)) g0 ∧ Below w.heap.size w (((((w.alloc (.cells #[.int .u8 97] 5 (1, 2))).alloc (.cells #[.int .i64 1, .int .i64 1, .slice (some ⟨g0, 0, none⟩) 1 1, .slice none 0 0, .bool false] 59)).alloc (.cells #[.int .u8 98] 5 (1, 2))).alloc (.cells #[.int .i64 1, .int .i64 1, .slice (some ⟨g0 + 2, 0, none⟩) 1 1, .slice none 0 0, .bool false] 59)).alloc (.cells #[.slice (some ⟨g0 + 1, 0, none⟩) 1 1, .int .i64 0, .int .i64 0, .int .i64 0, .slice none 0 0, .slice (some ⟨g0 + 3, 0, none⟩) 1 1, .int .i64 0, .int .i64 0, .int .i64 0, .slice none 0 0] 51)) := by
  have n1 := nkeep w (.cells #[.int .u8 97] 5 (1, 2))
  have r1 := Rd.litAt w 5 (1, 2) #[.int .u8 97] [97] rfl 1 rfl (by decide) g0 hg
  have s1 : (w.alloc (.cells #[.int .u8 97] 5 (1, 2))).heap.size = g0 + 1 := by rw [size_alloc, hg]
  generalize w.alloc (.cells #[.int .u8 97] 5 (1, 2)) = w1 at *
  have n2 := nkeep w1 (.cells #[.int .i64 1, .int .i64 1, .slice (some ⟨g0, 0, none⟩) 1 1, .slice none 0 0, .bool false] 59)
  have y2 := alloc_at w1 (.cells #[.int .i64 1, .int .i64 1, .slice (some ⟨g0, 0, none⟩) 1 1, .slice none 0 0, .bool false] 59) (g0 + 1) s1.symm
  have s2 : (w1.alloc (.cells #[.int .i64 1, .int .i64 1, .slice (some ⟨g0, 0, none⟩) 1 1, .slice none 0 0, .bool false] 59)).heap.size = g0 + 2 := by rw [size_alloc, s1]
  have r2 := r1.below n2
  generalize w1.alloc (.cells #[.int .i64 1, .int .i64 1, .slice (some ⟨g0, 0, none⟩) 1 1, .slice none 0 0, .bool false] 59) = w2 at *
  have n3 := nkeep w2 (.cells #[.int .u8 98] 5 (1, 2))
  have r3 := Rd.litAt w2 5 (1, 2) #[.int .u8 98] [98] rfl 1 rfl (by decide) (g0 + 2) s2
  have s3 : (w2.alloc (.cells #[.int .u8 98] 5 (1, 2))).heap.size = g0 + 3 := by rw [size_alloc, s2]
  have r23 := r2.below n3
  have y3 := keepH y2 n3
  generalize w2.alloc (.cells #[.int .u8 98] 5 (1, 2)) = w3 at *
  have n4 := nkeep w3 (.cells #[.int .i64 1, .int .i64 1, .slice (some ⟨g0 + 2, 0, none⟩) 1 1, .slice none 0 0, .bool false] 59)
  have y4 := alloc_at w3 (.cells #[.int .i64 1, .int .i64 1, .slice (some ⟨g0 + 2, 0, none⟩) 1 1, .slice none 0 0, .bool false] 59) (g0 + 3) s3.symm
  have s4 : (w3.alloc (.cells #[.int .i64 1, .int .i64 1, .slice (some ⟨g0 + 2, 0, none⟩) 1 1, .slice none 0 0, .bool false] 59)).heap.size = g0 + 4 := by rw [size_alloc, s3]
  have r34 := r3.below n4
  have r24 := r23.below n4
  have y34 := keepH y3 n4
  generalize w3.alloc (.cells #[.int .i64 1, .int .i64 1, .slice (some ⟨g0 + 2, 0, none⟩) 1 1, .slice none 0 0, .bool false] 59) = w4 at *
  have n5 := nkeep w4 (.cells #[.slice (some ⟨g0 + 1, 0, none⟩) 1 1, .int .i64 0, .int .i64 0, .int .i64 0, .slice none 0 0, .slice (some ⟨g0 + 3, 0, none⟩) 1 1, .int .i64 0, .int .i64 0, .int .i64 0, .slice none 0 0] 51)
  have y5 := alloc_at w4 (.cells #[.slice (some ⟨g0 + 1, 0, none⟩) 1 1, .int .i64 0, .int .i64 0, .int .i64 0, .slice none 0 0, .slice (some ⟨g0 + 3, 0, none⟩) 1 1, .int .i64 0, .int .i64 0, .int .i64 0, .slice none 0 0] 51) (g0 + 4) s4.symm
  exact ⟨⟨keepH y34 n5, y5, r24.below n5, keepH y4 n5, r34.below n5⟩, bthen (bthen (bthen (bthen n1 n2) n3) n4) n5⟩

set_option maxHeartbeats 16000000 in
theorem sqShown_any (w : World) : Calls Try.prog 9 #[] w (Yes w) := by
  obtain ⟨g0, hg0⟩ : ∃ g, w.heap.size = g := ⟨_, rfl⟩
  obtain ⟨sh, hb⟩ := shLit w g0 hg0
  have kc1 : (convert 33 33 (.slice (some ⟨g0, 0, none⟩) 1 1)).run Try.prog (w.alloc (.cells #[.int .u8 97] 5)) = .ok (.slice (some ⟨g0, 0, none⟩) 1 1) (w.alloc (.cells #[.int .u8 97] 5 (1, 2))) := kc_lit w _ hg0 #[.int .u8 97] 1 1
  have kc2 : (convert 33 33 (.slice (some ⟨g0 + 2, 0, none⟩) 1 1)).run Try.prog (((w.alloc (.cells #[.int .u8 97] 5 (1, 2))).alloc (.cells #[.int .i64 1, .int .i64 1, .slice (some ⟨g0, 0, none⟩) 1 1, .slice none 0 0, .bool false] 59)).alloc (.cells #[.int .u8 98] 5)) = .ok (.slice (some ⟨g0 + 2, 0, none⟩) 1 1) (((w.alloc (.cells #[.int .u8 97] 5 (1, 2))).alloc (.cells #[.int .i64 1, .int .i64 1, .slice (some ⟨g0, 0, none⟩) 1 1, .slice none 0 0, .bool false] 59)).alloc (.cells #[.int .u8 98] 5 (1, 2))) := kc_lit _ _ (by rw [size_alloc, size_alloc, hg0]) #[.int .u8 98] 1 1
  have HG0 := hidT hg0
  obtain ⟨W, hW⟩ : ∃ W, (((((w.alloc (.cells #[.int .u8 97] 5 (1, 2))).alloc (.cells #[.int .i64 1, .int .i64 1, .slice (some ⟨g0, 0, none⟩) 1 1, .slice none 0 0, .bool false] 59)).alloc (.cells #[.int .u8 98] 5 (1, 2))).alloc (.cells #[.int .i64 1, .int .i64 1, .slice (some ⟨g0 + 2, 0, none⟩) 1 1, .slice none 0 0, .bool false] 59)).alloc (.cells #[.slice (some ⟨g0 + 1, 0, none⟩) 1 1, .int .i64 0, .int .i64 0, .int .i64 0, .slice none 0 0, .slice (some ⟨g0 + 3, 0, none⟩) 1 1, .int .i64 0, .int .i64 0, .int .i64 0, .slice none 0 0] 51)) = W := ⟨_, rfl⟩
  have HW := hidT hW
  rw [hW] at sh hb
  have SH0 := hidT sh
  have B0 := hidT hb
  have HS1 : Hid (SmallLs sls1) := hidT (smLs (by decide))
  have hc : Calls Try.prog 13 #[.agg #[.int .i64 0, .int .i64 0], .slice (some ⟨g0 + 4, 0, none⟩) 2 2, .int .i64 0, .int .i64 8] W (SayIs W (some (Seqr.orderOf [0, 1] 0))) := by
    rw [← say1]; exact sqSay_any ⟨0, 0⟩ _ 2 2 sls1 0 8 W sh.rdl HS1.out (by omega) (by omega) (by omega) (by decide)
  have HC := hidT hc
  clear hc sh hb hW
  go_enter Try.func9, Try.ntmps9
  go_wp2_with fail
  rw [HW.out]
  rw [show g0 + 1 + 1 + 1 + 1 = g0 + 4 from rfl]
  clear kc1 kc2 hg0
  with_reducible refine HC.out.mono ?_
  rintro e w1 ⟨v, rfl, hi, hb1⟩
  obtain ⟨LA1, ln1, lc1, BA1, bn1, bc1, ev, hl1, hbb1, hwi1⟩ := hi
  have ev' : v = .agg #[.int .i64 2, .int .i64 0, .int .i64 0, .int .i64 0, .int .i64 0, .int .i64 0, .slice LA1 ln1 lc1, .slice BA1 bn1 bc1] := ev
  clear ev
  subst ev'
  have n3 := nkeep w1 (.cells #[.int .i64 2, .int .i64 0, .int .i64 0, .int .i64 0, .int .i64 0, .int .i64 0, .slice LA1 ln1 lc1, .slice BA1 bn1 bc1] 35)
  have y3 := alloc_at w1 (.cells #[.int .i64 2, .int .i64 0, .int .i64 0, .int .i64 0, .int .i64 0, .int .i64 0, .slice LA1 ln1 lc1, .slice BA1 bn1 bc1] 35) _ rfl
  have hb2 := bthen hb1 n3
  obtain ⟨X1, hX1⟩ : ∃ X, w1.alloc (.cells #[.int .i64 2, .int .i64 0, .int .i64 0, .int .i64 0, .int .i64 0, .int .i64 0, .slice LA1 ln1 lc1, .slice BA1 bn1 bc1] 35) = X := ⟨_, rfl⟩
  rw [hX1] at n3 y3 hb2
  have HX1 := hidT hX1
  obtain ⟨q1, hq1⟩ : ∃ q, w1.heap.size = q := ⟨_, rfl⟩
  rw [hq1] at y3
  have HQ1 : Hid (W.heap.size ≤ q1) := hidT (by have h1 := hb1.size; have h2 := Nat.le_refl W.heap.size; omega)
  have HBX1 : Hid (W.heap.size ≤ X1.heap.size) := hidT (by have h1 := hb2.size; have h2 := Nat.le_refl W.heap.size; omega)
  have SH1 := hidT (SH0.out.below hb2)
  have B1_ := hidT (bthen B0.out hb2)
  have WI1 := hidT hwi1
  clear hwi1
  have RI1_1 := hidT (RdV.below hl1 n3)
  have Y1_1 := hidT y3
  clear hl1 hbb1 n3 y3 hb1 hb2 hX1 HC
  have hc : Calls Try.prog 13 #[.agg #[.int .i64 0, .int .i64 0], .slice (some ⟨g0 + 4, 0, none⟩) 2 2, .int .i64 1, .int .i64 8] X1 (SayIs X1 none) := by
    rw [← say2]; exact sqSay_any ⟨0, 0⟩ _ 2 2 sls1 1 8 X1 SH1.out.rdl HS1.out (by omega) (by omega) (by omega) (by decide)
  have HC := hidT hc
  clear hc
  go_wp2_with fail
  rw [HX1.out]
  clear hq1
  with_reducible refine HC.out.mono ?_
  rintro e w2 ⟨v, rfl, hi, hb1⟩
  obtain ⟨LA2, ln2, lc2, BA2, bn2, bc2, ev, hl2, hbb2, hwi2⟩ := hi
  have ev' : v = .agg #[.int .i64 0, .int .i64 0, .int .i64 0, .int .i64 0, .int .i64 0, .int .i64 0, .slice LA2 ln2 lc2, .slice BA2 bn2 bc2] := ev
  clear ev
  subst ev'
  have n3 := nkeep w2 (.cells #[.int .i64 0, .int .i64 0, .int .i64 0, .int .i64 0, .int .i64 0, .int .i64 0, .slice LA2 ln2 lc2, .slice BA2 bn2 bc2] 35)
  have y3 := alloc_at w2 (.cells #[.int .i64 0, .int .i64 0, .int .i64 0, .int .i64 0, .int .i64 0, .int .i64 0, .slice LA2 ln2 lc2, .slice BA2 bn2 bc2] 35) _ rfl
  have hb2 := bthen hb1 n3
  obtain ⟨X2, hX2⟩ : ∃ X, w2.alloc (.cells #[.int .i64 0, .int .i64 0, .int .i64 0, .int .i64 0, .int .i64 0, .int .i64 0, .slice LA2 ln2 lc2, .slice BA2 bn2 bc2] 35) = X := ⟨_, rfl⟩
  rw [hX2] at n3 y3 hb2
  have HX2 := hidT hX2
  obtain ⟨q2, hq2⟩ : ∃ q, w2.heap.size = q := ⟨_, rfl⟩
  rw [hq2] at y3
  have HQ2 : Hid (W.heap.size ≤ q2) := hidT (by have h1 := hb1.size; have h2 := HBX1.out; omega)
  have HBX2 : Hid (W.heap.size ≤ X2.heap.size) := hidT (by have h1 := hb2.size; have h2 := HBX1.out; omega)
  have SH2 := hidT (SH1.out.below hb2)
  have B2_ := hidT (bthen B1_.out hb2)
  have WI2 := hidT hwi2
  clear hwi2
  have RI2_2 := hidT (RdV.below hl2 n3)
  have Y2_2 := hidT y3
  have RI1_2 := hidT (RdV.below RI1_1.out hb2)
  have Y1_2 := hidT (keepH Y1_1.out hb2)
  clear hl2 hbb2 n3 y3 hb1 hb2 hX2 HC
  have hc : Calls Try.prog 13 #[.agg #[.int .i64 0, .int .i64 7], .slice (some ⟨g0 + 4, 0, none⟩) 2 2, .int .i64 0, .int .i64 8] X2 (SayIs X2 (some (Seqr.orderOf [0] 1))) := by
    rw [← say3]; exact sqSay_any ⟨0, 7⟩ _ 2 2 sls1 0 8 X2 SH2.out.rdl HS1.out (by omega) (by omega) (by omega) (by decide)
  have HC := hidT hc
  clear hc
  go_wp2_with fail
  rw [HX2.out]
  clear hq2
  with_reducible refine HC.out.mono ?_
  rintro e w3 ⟨v, rfl, hi, hb1⟩
  obtain ⟨LA3, ln3, lc3, BA3, bn3, bc3, ev, hl3, hbb3, hwi3⟩ := hi
  have ev' : v = .agg #[.int .i64 2, .int .i64 0, .int .i64 0, .int .i64 1, .int .i64 0, .int .i64 0, .slice LA3 ln3 lc3, .slice BA3 bn3 bc3] := ev
  clear ev
  subst ev'
  have n3 := nkeep w3 (.cells #[.int .i64 2, .int .i64 0, .int .i64 0, .int .i64 1, .int .i64 0, .int .i64 0, .slice LA3 ln3 lc3, .slice BA3 bn3 bc3] 35)
  have y3 := alloc_at w3 (.cells #[.int .i64 2, .int .i64 0, .int .i64 0, .int .i64 1, .int .i64 0, .int .i64 0, .slice LA3 ln3 lc3, .slice BA3 bn3 bc3] 35) _ rfl
  have hb2 := bthen hb1 n3
  obtain ⟨X3, hX3⟩ : ∃ X, w3.alloc (.cells #[.int .i64 2, .int .i64 0, .int .i64 0, .int .i64 1, .int .i64 0, .int .i64 0, .slice LA3 ln3 lc3, .slice BA3 bn3 bc3] 35) = X := ⟨_, rfl⟩
  rw [hX3] at n3 y3 hb2
  have HX3 := hidT hX3
  obtain ⟨q3, hq3⟩ : ∃ q, w3.heap.size = q := ⟨_, rfl⟩
  rw [hq3] at y3
  have HQ3 : Hid (W.heap.size ≤ q3) := hidT (by have h1 := hb1.size; have h2 := HBX2.out; omega)
  have HBX3 : Hid (W.heap.size ≤ X3.heap.size) := hidT (by have h1 := hb2.size; have h2 := HBX2.out; omega)
  have SH3 := hidT (SH2.out.below hb2)
  have B3_ := hidT (bthen B2_.out hb2)
  have WI3 := hidT hwi3
  clear hwi3
  have RI3_3 := hidT (RdV.below hl3 n3)
  have Y3_3 := hidT y3
  have RI1_3 := hidT (RdV.below RI1_2.out hb2)
  have Y1_3 := hidT (keepH Y1_2.out hb2)
  have RI2_3 := hidT (RdV.below RI2_2.out hb2)
  have Y2_3 := hidT (keepH Y2_2.out hb2)
  clear hl3 hbb3 n3 y3 hb1 hb2 hX3 HC
  go_upto_region 5 with fail
  rw [HX3.out]
  clear hq3
  obtain ⟨c0, c1, c2, c3, c4⟩ : X3.cell? ⟨g0 + 4, 0, none⟩ = some (.slice (some ⟨g0 + 1, 0, none⟩) 1 1) ∧ X3.cell? ⟨g0 + 4, 1, none⟩ = some (.int .i64 0) ∧ X3.cell? ⟨g0 + 4, 2, none⟩ = some (.int .i64 0) ∧ X3.cell? ⟨g0 + 4, 3, none⟩ = some (.int .i64 0) ∧ X3.cell? ⟨g0 + 4, 4, none⟩ = some (.slice none 0 0) := ⟨cell_at SH3.out.l 0 rfl, cell_at SH3.out.l 1 rfl, cell_at SH3.out.l 2 rfl, cell_at SH3.out.l 3 rfl, cell_at SH3.out.l 4 rfl⟩
  have nA := nkeep X3 (.cells #[.int .i64 1, .int .i64 0, .int .i64 0] 3)
  have rA := RdV.lit X3 3 (0, 0) #[.int .i64 1, .int .i64 0, .int .i64 0] (is [1, 0, 0]) rfl 3 rfl (by decide) X3.heap.size rfl
  have nB := nkeep (X3.alloc (.cells #[.int .i64 1, .int .i64 0, .int .i64 0] 3)) (.cells #[.int .i64 2, .int .i64 2, .slice none 0 0, .slice (some ⟨X3.heap.size, 0, none⟩) 3 3, .bool true] 59)
  have rB := RdV.below rA nB
  have HLIT := hidT (RdK.lit (k := 5) (X3.alloc (.cells #[.int .i64 1, .int .i64 0, .int .i64 0] 3)) 59 (0, 0) #[.int .i64 2, .int .i64 2, .slice none 0 0, .slice (some ⟨X3.heap.size, 0, none⟩) 3 3, .bool true] [#[.int .i64 2, .int .i64 2, .slice none 0 0, .slice (some ⟨X3.heap.size, 0, none⟩) 3 3, .bool true]] (AllK.one rfl (by simp [Value.oneCell'])) (by simp [flat]) 1 rfl (by decide) (X3.heap.size + 1) (size_alloc _ _))
  have hAB := bthen nA nB
  have SHB := SH3.out.below hAB
  have hown : OwnK 5 ((X3.alloc (.cells #[.int .i64 1, .int .i64 0, .int .i64 0] 3)).alloc (.cells #[.int .i64 2, .int .i64 2, .slice none 0 0, .slice (some ⟨X3.heap.size, 0, none⟩) 3 3, .bool true] 59)) g0 59 (.slice (some ⟨g0 + 1, 0, none⟩) 1 1) 1 [#[.int .i64 1, .int .i64 1, .slice (some ⟨g0, 0, none⟩) 1 1, .slice none 0 0, .bool false]] := ⟨AllK.one rfl (by simp [Value.oneCell']), rfl, rfl, .inr ⟨g0 + 1, 1, _, rfl, by omega, SHB.e1, Nat.le_refl _, by decide, rfl, rfl⟩⟩
  have HOWN := hidT hown
  have HSB := hidT SHB
  have HRB := hidT rB
  have HAB := hidT hAB
  have hgs : g0 ≤ ((X3.alloc (.cells #[.int .i64 1, .int .i64 0, .int .i64 0] 3)).alloc (.cells #[.int .i64 2, .int .i64 2, .slice none 0 0, .slice (some ⟨X3.heap.size, 0, none⟩) 3 3, .bool true] 59)).heap.size := by have := blk_lt SHB.l; omega
  have HGS := hidT hgs
  have HX3S : Hid (X3.heap.size < ((X3.alloc (.cells #[.int .i64 1, .int .i64 0, .int .i64 0] 3)).alloc (.cells #[.int .i64 2, .int .i64 2, .slice none 0 0, .slice (some ⟨X3.heap.size, 0, none⟩) 3 3, .bool true] 59)).heap.size ∧ g0 + 4 < X3.heap.size) := hidT ⟨by rw [size_alloc, size_alloc]; omega, blk_lt SH3.out.l⟩
  clear nA rA nB rB hAB SHB hown hgs
  go_wp2_with (first
    | (at_builtin
       refine wpList_appKW 5 (by omega) rfl (.tmp 44) (.tmp 47) 47 rfl g0 59 _ 72 infoE rfl (by omega) Try.underlying47 (.slice (some ⟨g0 + 1, 0, none⟩) 1 1) 1 _ rfl HOWN.out (some ⟨X3.heap.size + 1, 0, none⟩) 1 1 _ rfl HLIT.out (by omega) HGS.out ?_
       intro v9 w9 hown hb9 hg9 ho9
       obtain ⟨A9, c9, rfl, hrd9⟩ := OwnK.rd hown
       have hz := HX3S.out
       have hl9 : w9.heap[g0 + 4]? = some (.cells #[.slice (some ⟨g0 + 1, 0, none⟩) 1 1, .int .i64 0, .int .i64 0, .int .i64 0, .slice none 0 0, .slice (some ⟨g0 + 3, 0, none⟩) 1 1, .int .i64 0, .int .i64 0, .int .i64 0, .slice none 0 0] 51) := by rw [hg9.block (g0 + 4) (by omega) (by intro e; have e : some (g0 + 4) = some (g0 + 1) := e; injection e with e; omega)]; exact HSB.out.l
       have f9 := no_frozen hl9 0
       obtain ⟨d0, d1, d2, d3, d4⟩ : w9.cell? ⟨g0 + 4, 0, none⟩ = some (.slice (some ⟨g0 + 1, 0, none⟩) 1 1) ∧ w9.cell? ⟨g0 + 4, 1, none⟩ = some (.int .i64 0) ∧ w9.cell? ⟨g0 + 4, 2, none⟩ = some (.int .i64 0) ∧ w9.cell? ⟨g0 + 4, 3, none⟩ = some (.int .i64 0) ∧ w9.cell? ⟨g0 + 4, 4, none⟩ = some (.slice none 0 0) := ⟨cell_at hl9 0 rfl, cell_at hl9 1 rfl, cell_at hl9 2 rfl, cell_at hl9 3 rfl, cell_at hl9 4 rfl⟩
       have z10 : (w9.setCell ⟨g0 + 4, 0, none⟩ (.slice A9 2 c9)).heap[g0 + 4]? = some (.cells #[.slice A9 2 c9, .int .i64 0, .int .i64 0, .int .i64 0, .slice none 0 0, .slice (some ⟨g0 + 3, 0, none⟩) 1 1, .int .i64 0, .int .i64 0, .int .i64 0, .slice none 0 0] 51) := heap_setCell_same w9 (g0 + 4) 0 _ _ _ hl9
       have zb : But (g0 + 4) w9 (w9.setCell ⟨g0 + 4, 0, none⟩ (.slice A9 2 c9)) := But.setCell w9 (g0 + 4) 0 _
       have hk : ∀ {S : Nat → Prop}, (∀ b, S b → b ≠ g0 + 1 ∧ b ≠ g0 + 4) → KeptS S ((X3.alloc (.cells #[.int .i64 1, .int .i64 0, .int .i64 0] 3)).alloc (.cells #[.int .i64 2, .int .i64 2, .slice none 0 0, .slice (some ⟨X3.heap.size, 0, none⟩) 3 3, .bool true] 59)) (w9.setCell ⟨g0 + 4, 0, none⟩ (.slice A9 2 c9)) := fun hS b o u hb hu => (KeptS.but zb (fun b h => (hS b h).2)) b o u hb ((KeptS.grown hg9 (fun b h e => by have e : some (g0 + 1) = some b := e; injection e with e; exact (hS b h).1 e.symm)) b o u hb hu)
       have hb1' := HSB.out.b1.keptS (S := fun b => b = g0) (fun h0 b o e => by injection e with e; injection e with e1 e2; exact e1.symm) (hk fun b h => by omega)
       have hb2' := HSB.out.b2.keptS (S := fun b => b = g0 + 2) (fun h0 b o e => by injection e with e; injection e with e1 e2; exact e1.symm) (hk fun b h => by omega)
       have hi3' := RdV.keptS HRB.out (S := fun b => b = X3.heap.size) (fun h0 b o e => by injection e with e; injection e with e1 e2; exact e1.symm) (hk fun b h => by omega)
       have he2' : (w9.setCell ⟨g0 + 4, 0, none⟩ (.slice A9 2 c9)).heap[g0 + 3]? = some (.cells #[.int .i64 1, .int .i64 1, .slice (some ⟨g0 + 2, 0, none⟩) 1 1, .slice none 0 0, .bool false] 59) := by
         rw [zb.2 (g0 + 3) (by omega), hg9.block (g0 + 3) (by omega) (by intro e; have e : some (g0 + 3) = some (g0 + 1) := e; injection e with e; omega)]; exact HSB.out.e2
       have hA9 : ∀ b o, A9 = some ⟨b, o, none⟩ → b ≠ g0 + 4 := fun b o e => by
         rcases ho9 with h2 | h2
         · subst e; have h2 : some b = some (g0 + 1) := h2; injection h2 with h2; omega
         · subst e; have h2 : some b = some ((X3.alloc (.cells #[.int .i64 1, .int .i64 0, .int .i64 0] 3)).alloc (.cells #[.int .i64 2, .int .i64 2, .slice none 0 0, .slice (some ⟨X3.heap.size, 0, none⟩) 3 3, .bool true] 59)).heap.size := h2; injection h2 with h2; omega
       have hrow : RdE (fun _ => True) (w9.setCell ⟨g0 + 4, 0, none⟩ (.slice A9 2 c9)) A9 2 c9 [sm97, so2] := ⟨_, hown.same.keptS (S := fun b => b ≠ g0 + 4) (fun h0 b o e => hA9 b o e) (KeptS.but zb fun b h => h),
         (AreE.one (x := sm97) ⟨_, _, _, _, _, _, rfl, hb1', RdV.nil_ _, Within.any _ _, Within.zero _ _⟩).app (AreE.one (x := so2) ⟨_, _, _, _, _, _, rfl, Rd.nil_ _, hi3', Within.zero _ _, Within.any _ _⟩), Within.any _ _⟩
       have hrdl : RdL (fun _ => True) (w9.setCell ⟨g0 + 4, 0, none⟩ (.slice A9 2 c9)) (some ⟨g0 + 4, 0, none⟩) 2 2 sls2 := RdL.mk2 z10 hrow (RdE.mk1 he2' (by simp [Value.oneCell']) ⟨_, _, _, _, _, _, rfl, hb2', RdV.nil_ _, Within.any _ _, Within.zero _ _⟩)
       have hgw := HG0.out
       have HB10 := hidT (((B3_.out.trans (HAB.out.mono (by omega))).trans (hb9.mono (by omega))).setCell (p := ⟨g0 + 4, 0, none⟩) (show w.heap.size ≤ g0 + 4 by omega) (.slice A9 2 c9))
       have hq : ∀ (p : Nat) (o : Obj), X3.heap[p]? = some o → p ≠ g0 + 1 → p ≠ g0 + 4 → (w9.setCell ⟨g0 + 4, 0, none⟩ (.slice A9 2 c9)).heap[p]? = some o := fun p o hp h1 h2 => by
         rw [zb.2 p h2, hg9.block p (blk_lt (keepH hp HAB.out)) (by intro e; have e : some p = some (g0 + 1) := e; injection e with e; exact h1 e)]; exact keepH hp HAB.out
       have hwz := SH0.out.l
       have hz1 := blk_lt SH0.out.l
       have hbx1 : W.heap.size ≤ X1.heap.size := by have h1 := blk_lt SH1.out.l; have h2 := HBX1.out; omega
       have hbx2 : W.heap.size ≤ X2.heap.size := by have h2 := HBX2.out; omega
       have Q1 := hidT (hq q1 _ Y1_3.out (by have := HQ1.out; omega) (by have := HQ1.out; omega))
       have Q3 := hidT (hq q3 _ Y3_3.out (by have := HQ3.out; omega) (by have := HQ3.out; omega))
       have N1 := hidT (RdV.keptS (RdV.below RI1_3.out HAB.out) (S := fun b => W.heap.size ≤ b) WI1.out (hk fun b h => by omega))
       have N3 := hidT (RdV.keptS (RdV.below RI3_3.out HAB.out) (S := fun b => W.heap.size ≤ b) (WI3.out.mono fun b hb => by have hb : X2.heap.size ≤ b := hb; omega) (hk fun b h => by omega))
       clear hwz hz1 hbx1 hbx2
       have HRDL := hidT hrdl
       clear hz hl9 z10 zb hk hb1' hb2' hi3' he2' hA9 hrow hrdl hgw hq hown hb9 hg9 ho9 hrd9
       clear c0 c1 c2 c3 c4)
    | fail)
  generalize w9.setCell ⟨g0 + 4, 0, none⟩ (.slice A9 2 c9) = V at *
  have hc : Calls Try.prog 11 #[.agg #[.int .i64 0, .int .i64 0], .slice (some ⟨g0 + 4, 0, none⟩) 2 2] V (WalkOut V (⟨0, 2⟩, sls3, [⟨1, [98]⟩, ⟨0, [97]⟩])) := by
    rw [← walk1]; exact sqWalkOut_any ⟨0, 0⟩ _ 2 2 sls2 V HRDL.out ⟨by decide, by decide⟩ (smLs (by decide)) (by omega) (by decide) (by decide) (by decide)
  with_reducible refine hc.mono ?_
  rintro e w11 ⟨AM, nm, cm, AD, nd, cd, rfl, hml, hmd, hb11⟩
  have hnm : nm = 2 := hml.size.symm
  subst hnm
  have n12 := nkeep w11 (.cells #[.int .i64 0, .int .i64 2] 23)
  have y12 := alloc_at w11 (.cells #[.int .i64 0, .int .i64 2] 23) _ rfl
  have hb12 := bthen hb11 n12
  have ML := hidT (hml.below n12)
  have MD := hidT (hmd.below n12)
  have Q1_2 := hidT (keepH Q1.out hb12)
  have Q3_2 := hidT (keepH Q3.out hb12)
  have N1_2 := hidT (RdV.below N1.out hb12)
  have N3_2 := hidT (RdV.below N3.out hb12)
  have HB12 := hidT (bthen HB10.out hb12)
  obtain ⟨X, hX⟩ : ∃ X, w11.alloc (.cells #[.int .i64 0, .int .i64 2] 23) = X := ⟨_, rfl⟩
  rw [hX] at n12 y12
  have HX := hidT hX
  obtain ⟨q4, hq4⟩ : ∃ q, w11.heap.size = q := ⟨_, rfl⟩
  rw [hq4] at y12
  have Q4 := hidT y12
  have HSX : Hid (X.heap.size = q4 + 1) := hidT (by rw [← hX, size_alloc, hq4])
  rw [hX] at hb12
  -- the first comparison
  have nl := nkeep X (.cells #[.int .i64 0, .int .i64 1] 3)
  have rl : RdI (X.alloc (.cells #[.int .i64 0, .int .i64 1] 3)) (some ⟨q4 + 1, 0, none⟩) 2 2 [0, 1] := RdV.lit X 3 (0, 0) #[.int .i64 0, .int .i64 1] (is [0, 1]) rfl 2 rfl (by decide) (q4 + 1) HSX.out
  have HC1 := hidT (rsame_is LA1 ln1 lc1 [0, 1] (some ⟨q4 + 1, 0, none⟩) 2 2 [0, 1] _ (RdV.below (hX ▸ N1_2.out) nl) rl true (by decide))
  have HNL := hidT nl
  have q16 : X.cell? ⟨q1, 6, none⟩ = some (.slice LA1 ln1 lc1) := cell_at (hX ▸ Q1_2.out) 6 rfl
  rw [← HX.out] at q16
  clear hc hml hmd hb11 n12 hb12 hX nl rl y12
  go_wp2_with fail
  rw [HX.out]
  clear q16 hq4
  with_reducible refine HC1.out.mono ?_
  rintro e w13 ⟨rfl, hb13⟩
  have hbt := bthen HNL.out hb13
  have q13 := cell_at (keepH (HX.out ▸ Q1_2.out : X.heap[q1]? = _) hbt) 3 rfl
  have Q3_3 := hidT (keepH (HX.out ▸ Q3_2.out : X.heap[q3]? = _) hbt)
  have q36 := cell_at Q3_3.out 6 rfl
  have nl := nkeep w13 (.cells #[.int .i64 0] 3)
  have rl : RdI (w13.alloc (.cells #[.int .i64 0] 3)) (some ⟨w13.heap.size, 0, none⟩) 1 1 [0] := RdV.lit w13 3 (0, 0) #[.int .i64 0] (is [0]) rfl 1 rfl (by decide) _ rfl
  have HC2 := hidT (rsame_is LA3 ln3 lc3 [0] (some ⟨w13.heap.size, 0, none⟩) 1 1 [0] _ (RdV.below (RdV.below (HX.out ▸ N3_2.out : RdI X LA3 ln3 lc3 _) hbt) nl) rl true (by decide))
  have HN2 := hidT nl
  have HT := hidT hbt
  clear nl rl hbt hb13 HC1
  go_wp2_with fail
  clear q13 q36
  with_reducible refine HC2.out.mono ?_
  rintro e w14 ⟨rfl, hb14⟩
  have hb34 := bthen HN2.out hb14
  have q33 := cell_at (keepH Q3_3.out hb34) 3 rfl
  obtain ⟨t0, t1⟩ := cells2 (keepH Q4.out (bthen HT.out hb34))
  have MD3 := (HX.out ▸ MD.out : RdD (Hi V.heap.size) X AD nd cd [⟨1, [98]⟩, ⟨0, [97]⟩]).below (bthen HT.out hb34)
  have ML3 := (HX.out ▸ ML.out : RdL (Hi V.heap.size) X AM 2 cm sls3).below (bthen HT.out hb34)
  obtain ⟨p, hp⟩ : ∃ p, w14.heap.size = p := ⟨_, rfl⟩
  have kc1 : (convert 33 33 (.slice (some ⟨p, 0, none⟩) 1 1)).run Try.prog (w14.alloc (.cells #[.int .u8 98] 5)) = .ok (.slice (some ⟨p, 0, none⟩) 1 1) (w14.alloc (.cells #[.int .u8 98] 5 (1, 2))) := kc_lit w14 _ hp #[.int .u8 98] 1 1
  have kc2 : (convert 33 33 (.slice (some ⟨p + 1, 0, none⟩) 1 1)).run Try.prog ((w14.alloc (.cells #[.int .u8 98] 5 (1, 2))).alloc (.cells #[.int .u8 97] 5)) = .ok (.slice (some ⟨p + 1, 0, none⟩) 1 1) ((w14.alloc (.cells #[.int .u8 98] 5 (1, 2))).alloc (.cells #[.int .u8 97] 5 (1, 2))) := kc_lit _ _ (by rw [size_alloc, hp]) #[.int .u8 97] 1 1
  have na := nkeep w14 (.cells #[.int .u8 98] 5 (1, 2))
  have ra := Rd.litAt w14 5 (1, 2) #[.int .u8 98] [98] rfl 1 rfl (by decide) p hp
  have nb := nkeep (w14.alloc (.cells #[.int .u8 98] 5 (1, 2))) (.cells #[.int .u8 97] 5 (1, 2))
  have rb := Rd.litAt (w14.alloc (.cells #[.int .u8 98] 5 (1, 2))) 5 (1, 2) #[.int .u8 97] [97] rfl 1 rfl (by decide) (p + 1) (by rw [size_alloc, hp])
  have nc := nkeep ((w14.alloc (.cells #[.int .u8 98] 5 (1, 2))).alloc (.cells #[.int .u8 97] 5 (1, 2))) (.cells #[.int .i64 1, .slice (some ⟨p, 0, none⟩) 1 1, .int .i64 0, .slice (some ⟨p + 1, 0, none⟩) 1 1] 55)
  have hdl : RdD (fun _ => True) (((w14.alloc (.cells #[.int .u8 98] 5 (1, 2))).alloc (.cells #[.int .u8 97] 5 (1, 2))).alloc (.cells #[.int .i64 1, .slice (some ⟨p, 0, none⟩) 1 1, .int .i64 0, .slice (some ⟨p + 1, 0, none⟩) 1 1] 55)) (some ⟨p + 2, 0, none⟩) 2 2 [⟨1, [98]⟩, ⟨0, [97]⟩] :=
    ⟨[#[.int .i64 1, .slice (some ⟨p, 0, none⟩) 1 1], #[.int .i64 0, .slice (some ⟨p + 1, 0, none⟩) 1 1]], RdK.lit (k := 2) _ 55 (0, 0) #[.int .i64 1, .slice (some ⟨p, 0, none⟩) 1 1, .int .i64 0, .slice (some ⟨p + 1, 0, none⟩) 1 1] [#[.int .i64 1, .slice (some ⟨p, 0, none⟩) 1 1], #[.int .i64 0, .slice (some ⟨p + 1, 0, none⟩) 1 1]] (fun r hr => by
        simp only [List.mem_cons, List.not_mem_nil, or_false] at hr
        rcases hr with rfl | rfl
        · exact ⟨rfl, by simp [Value.oneCell']⟩
        · exact ⟨rfl, by simp [Value.oneCell']⟩) (by simp [flat]) 2 rfl (by decide) (p + 2) (by rw [size_alloc, size_alloc, hp]),
      (AreD.one (x := ⟨1, [98]⟩) ⟨_, _, _, rfl, (ra.below nb).below nc, Within.any _ _⟩).app (AreD.one (x := ⟨0, [97]⟩) ⟨_, _, _, rfl, rb.below nc, Within.any _ _⟩), Within.any _ _⟩
  have hnn := bthen (bthen na nb) nc
  have HC3 := hidT (delivs_any AD nd cd _ (some ⟨p + 2, 0, none⟩) 2 2 _ _ (MD3.below hnn) hdl true (by decide))
  have HNN := hidT hnn
  have HML := hidT ML3
  have HBB := hidT (bthen HT.out hb34)
  obtain ⟨W5, hW5⟩ : ∃ W5, ((w14.alloc (.cells #[.int .u8 98] 5 (1, 2))).alloc (.cells #[.int .u8 97] 5 (1, 2))).alloc (.cells #[.int .i64 1, .slice (some ⟨p, 0, none⟩) 1 1, .int .i64 0, .slice (some ⟨p + 1, 0, none⟩) 1 1] 55) = W5 := ⟨_, rfl⟩
  have HW5 := hidT hW5
  rw [hW5] at HC3 HNN
  clear na ra nb rb nc hdl hnn hb14 hb34 MD3 ML3 hW5
  go_wp2_with fail
  rw [HW5.out]
  clear q33 t0 t1 kc1 kc2 hp
  with_reducible refine HC3.out.mono ?_
  rintro e w15 ⟨rfl, hb15⟩
  have ML5 := HML.out.below (bthen HNN.out hb15)
  obtain ⟨b0, o0, l0, BB0, m0, d0, EA0, en0, ec0, hA0, hx0, hi0, hcs0⟩ := ML5.told (i := 0) (by omega)
  obtain ⟨b1, o1, l1, BB1, m1, d1, EA1, en1, ec1, hA1, hx1, hi1, hcs1⟩ := ML5.told (i := 1) (by omega)
  subst hA0
  injection hA1 with hA1
  injection hA1 with hA1 hA2
  subst hA1 hA2
  have hl0 : l0 = ⟨[⟨2, 2, [], [0], true⟩], none_⟩ := by simpa using hx0.symm
  have hl1 : l1 = ⟨[], none_⟩ := by simpa using hx1.symm
  have hen0 : en0 = 1 := by
    obtain ⟨_, _, _, _, _, _, ev, hE, _, _⟩ := hi0
    have h1 := hE.size
    simp only [Value.agg.injEq, Array.mk.injEq, List.cons.injEq, Value.slice.injEq] at ev
    rw [hl0] at h1
    rw [ev.1.2.1, ← h1]; rfl
  have hen1 : en1 = 0 := by
    obtain ⟨_, _, _, _, _, _, ev, hE, _, _⟩ := hi1
    have h1 := hE.size
    simp only [Value.agg.injEq, Array.mk.injEq, List.cons.injEq, Value.slice.injEq] at ev
    rw [hl1] at h1
    rw [ev.1.2.1, ← h1]; rfl
  subst hen0 hen1
  have u0 := (hcs0 w15 (Below.refl _ _)).1
  have u1 := (hcs1 w15 (Below.refl _ _)).1
  simp only [Nat.zero_mul, Nat.one_mul, Nat.add_zero] at u0 u1
  have HBF := hidT (bthen (bthen HB12.out (HX.out ▸ Below.refl _ _)) (bthen HBB.out (bthen HNN.out hb15)))
  clear ML5 hx0 hi0 hcs0 hx1 hi1 hcs1 hl0 hl1 hb15
  go_wp2
  go_ret
  exact ⟨rfl, HBF.out⟩
end Go.Proofs.Ytdchgnmkeefffaa
