/- What the document's Add comes to, and where it lies. -/
import Derived.Test.YtdchgnmkeefffaaLFX
set_option maxRecDepth 100000
namespace Go.Proofs.Ytdchgnmkeefffaa
open Go.RowKit
set_option linter.unusedVariables false

theorem fits_of {p : Pt} {seq index total : Int} {pc : List UInt8} (h : (addOf p seq index total pc).err = 0) : fits p index total = true := by
  cases hf : fits p index total with
  | true => rfl
  | false =>
    exfalso
    unfold addOf at h
    rw [hf, if_neg (by simp)] at h
    exact absurd h (show ¬ (2 : Int) = 0 by decide)
set_option maxHeartbeats 4000000 in
theorem raddF_first_whole (sq tt gt : Int) (b : List UInt8) (A : Option Addr) (n c : Nat) (seq : Int) (B : Option Addr) (m d : Nat) (pc : List UInt8) (w : World) (hr : Rd w A n c b) (hp : Rd w B m d pc) (hn : n ≤ 65536) (hm : m ≤ 65536)
    (hgt : gt = 0) :
    Calls Try.prog 62 #[.agg #[.int .i64 sq, .int .i64 tt, .int .i64 gt, .slice A n c], .int .i64 seq, .int .i64 0, .int .i64 1, .slice B m d] w (AddIsF w ⟨none_, [] ++ pc, true, 0⟩) := by
  subst hgt
  obtain ⟨g0, g1, hb0⟩ := two_alloc w (.cells #[.int .i64 sq, .int .i64 tt, .int .i64 0, .slice A n c] 49) (.cells #[.int .i64 0, .int .i64 0, .int .i64 0, .slice none 0 0] 49)
  have hsz : ((w.alloc (.cells #[.int .i64 sq, .int .i64 tt, .int .i64 0, .slice A n c] 49)).alloc (.cells #[.int .i64 0, .int .i64 0, .int .i64 0, .slice none 0 0] 49)).heap.size = w.heap.size + 2 := by simp only [size_alloc]
  have HE := hidT (madeB ((w.alloc (.cells #[.int .i64 sq, .int .i64 tt, .int .i64 0, .slice A n c] 49)).alloc (.cells #[.int .i64 0, .int .i64 0, .int .i64 0, .slice none 0 0] 49)) (w.heap.size + 2) (by omega) 5 (w.heap.size + 2) hsz)
  have hbE : Below w.heap.size w (((w.alloc (.cells #[.int .i64 sq, .int .i64 tt, .int .i64 0, .slice A n c] 49)).alloc (.cells #[.int .i64 0, .int .i64 0, .int .i64 0, .slice none 0 0] 49)).alloc (.cells #[] 5)) := bthen hb0 (nkeep _ _)
  have HP := hidT (hp.below hbE)
  have hzE : w.heap.size + 2 ≤ (((w.alloc (.cells #[.int .i64 sq, .int .i64 tt, .int .i64 0, .slice A n c] 49)).alloc (.cells #[.int .i64 0, .int .i64 0, .int .i64 0, .slice none 0 0] 49)).alloc (.cells #[] 5)).heap.size := by simp only [size_alloc]; omega
  have x2 := (alloc_old ((w.alloc (.cells #[.int .i64 sq, .int .i64 tt, .int .i64 0, .slice A n c] 49)).alloc (.cells #[.int .i64 0, .int .i64 0, .int .i64 0, .slice none 0 0] 49)) (.cells #[] 5) w.heap.size (by omega)).trans g0
  have z2 := (alloc_old ((w.alloc (.cells #[.int .i64 sq, .int .i64 tt, .int .i64 0, .slice A n c] 49)).alloc (.cells #[.int .i64 0, .int .i64 0, .int .i64 0, .slice none 0 0] 49)) (.cells #[] 5) (w.heap.size + 1) (by omega)).trans g1
  obtain ⟨k0, k1, k2, k3⟩ := cells4 g0
  obtain ⟨j0, j1, j2, j3⟩ := cells4 x2
  clear hsz
  go_enter Try.func62, Try.ntmps62
  go_wp2_with (
    at_builtin
    refine wpList_app rfl (.tmp 41) (.tmp 42) 33 rfl (w.heap.size + 2) 5 info5 Try.underlying33 (.slice (some ⟨w.heap.size + 2, 0, none⟩) 0 0) 0 [] rfl HE.out B m d pc rfl HP.out (by omega) hzE ?_
    intro v3 w3 ho3 hb3
    obtain ⟨A3, c3, rfl, hrd3⟩ := Own.rd ho3
    have x3 := (hb3.block w.heap.size (by omega)).trans x2
    have z3 := (hb3.block (w.heap.size + 1) (by omega)).trans z2
    have hl3 := hb3.size
    have hb03 := hbE.trans (hb3.mono (by omega))
    obtain ⟨N3, HN3⟩ : ∃ N3, 0 + m = N3 := ⟨_, rfl⟩
    rw [HN3] at ho3 hrd3 ⊢
    clear HN3 k0 k1 k2 k3 j0 j1 j2 j3
    have x4 := (alloc_old w3 (.cells #[.int .i64 seq, .int .i64 1, .int .i64 1, .slice A3 N3 c3] 49) w.heap.size (by omega)).trans x3
    have z4 := (alloc_old w3 (.cells #[.int .i64 seq, .int .i64 1, .int .i64 1, .slice A3 N3 c3] 49) (w.heap.size + 1) (by omega)).trans z3
    have e4 := alloc_at w3 (.cells #[.int .i64 seq, .int .i64 1, .int .i64 1, .slice A3 N3 c3] 49) _ rfl
    have hb34 := nkeep w3 (.cells #[.int .i64 seq, .int .i64 1, .int .i64 1, .slice A3 N3 c3] 49)
    have ho4 := ho3.later hb34
    have hb04 := bthen hb03 hb34
    have hsz4 := size_alloc w3 (.cells #[.int .i64 seq, .int .i64 1, .int .i64 1, .slice A3 N3 c3] 49)
    have fz := no_frozen z4
    obtain ⟨y0, y1, y2, y3⟩ := cells4 z4
    obtain ⟨k0, k1, k2, k3⟩ := cells4 x4)
  obtain ⟨w4, HW4⟩ : ∃ w4, Hid (w3.alloc (.cells #[.int .i64 seq, .int .i64 1, .int .i64 1, .slice A3 N3 c3] 49) = w4) := ⟨_, hidT rfl⟩
  rw [HW4.out] at x4 z4 e4 ho4 hb04 hsz4 fz y0 y1 y2 y3 k0 k1 k2 k3 hb34 ⊢
  clear HW4
  obtain ⟨d0, d1, d2, d3⟩ := cells4 e4
  go_region
  obtain ⟨hg2, hbut, hbel⟩ := set4 z4 (.int .i64 0) (.int .i64 0) (.int .i64 0) (.slice none 0 0)
  have HAD := hidT (addrB ho4 (base' := w.heap.size) (by omega))
  have hr5 := (ho4.but (by omega) hbut).same
  have hb5 := hbel _ _ hb04 (Nat.le_succ _)
  clear hbut hbel
  generalize ((((w4.setCell ⟨w.heap.size + 1, 0, none⟩ (.int .i64 0)).setCell ⟨w.heap.size + 1, 1, none⟩ (.int .i64 0)).setCell ⟨w.heap.size + 1, 2, none⟩ (.int .i64 0)).setCell ⟨w.heap.size + 1, 3, none⟩ (.slice none 0 0)) = w8 at hg2 hr5 hb5 ⊢
  obtain ⟨i0, i1, i2, i3⟩ := cells4 (w := w8.drew) hg2
  have HR := hidT hr5
  clear hr5 k0 k1 k2 k3 y0 y1 y2 y3 fz
  go_wp2
  exact bodyPost_ret (v := .tuple #[.agg #[.int .i64 0, .int .i64 0, .int .i64 0, .slice none 0 0], .slice A3 N3 c3, .bool true, .int .i64 0]) (by simp [results, Try.results62, go_sem, i0, i1, i2, i3]) rfl ⟨none, 0, 0, _, _, _, rfl, Rd.nil_ _, HR.out.drew, hb5.drew, (fun b o e => by cases e), HAD.out⟩

set_option maxHeartbeats 4000000 in
theorem raddF_first_on (sq tt gt : Int) (b : List UInt8) (A : Option Addr) (n c : Nat) (seq total : Int) (B : Option Addr) (m d : Nat) (pc : List UInt8) (w : World) (hr : Rd w A n c b) (hp : Rd w B m d pc) (hn : n ≤ 65536) (hm : m ≤ 65536)
    (hgt : gt = 0) (h1 : 2 ≤ total) (h2 : total ≤ 32) :
    Calls Try.prog 62 #[.agg #[.int .i64 sq, .int .i64 tt, .int .i64 gt, .slice A n c], .int .i64 seq, .int .i64 0, .int .i64 total, .slice B m d] w (AddIsF w ⟨⟨seq, total, 1, [] ++ pc⟩, [], false, 0⟩) := by
  subst hgt
  have q1 : decide (total < 1) = false := by simp; omega
  have q2 : decide (32 < total) = false := by simp; omega
  have q7 : ((1 : Int) == total) = false := by simp; omega
  obtain ⟨g0, g1, hb0⟩ := two_alloc w (.cells #[.int .i64 sq, .int .i64 tt, .int .i64 0, .slice A n c] 49) (.cells #[.int .i64 0, .int .i64 0, .int .i64 0, .slice none 0 0] 49)
  have hsz : ((w.alloc (.cells #[.int .i64 sq, .int .i64 tt, .int .i64 0, .slice A n c] 49)).alloc (.cells #[.int .i64 0, .int .i64 0, .int .i64 0, .slice none 0 0] 49)).heap.size = w.heap.size + 2 := by simp only [size_alloc]
  have HE := hidT (madeB ((w.alloc (.cells #[.int .i64 sq, .int .i64 tt, .int .i64 0, .slice A n c] 49)).alloc (.cells #[.int .i64 0, .int .i64 0, .int .i64 0, .slice none 0 0] 49)) (w.heap.size + 2) (by omega) 5 (w.heap.size + 2) hsz)
  have hbE : Below w.heap.size w (((w.alloc (.cells #[.int .i64 sq, .int .i64 tt, .int .i64 0, .slice A n c] 49)).alloc (.cells #[.int .i64 0, .int .i64 0, .int .i64 0, .slice none 0 0] 49)).alloc (.cells #[] 5)) := bthen hb0 (nkeep _ _)
  have HP := hidT (hp.below hbE)
  have hzE : w.heap.size + 2 ≤ (((w.alloc (.cells #[.int .i64 sq, .int .i64 tt, .int .i64 0, .slice A n c] 49)).alloc (.cells #[.int .i64 0, .int .i64 0, .int .i64 0, .slice none 0 0] 49)).alloc (.cells #[] 5)).heap.size := by simp only [size_alloc]; omega
  have x2 := (alloc_old ((w.alloc (.cells #[.int .i64 sq, .int .i64 tt, .int .i64 0, .slice A n c] 49)).alloc (.cells #[.int .i64 0, .int .i64 0, .int .i64 0, .slice none 0 0] 49)) (.cells #[] 5) w.heap.size (by omega)).trans g0
  have z2 := (alloc_old ((w.alloc (.cells #[.int .i64 sq, .int .i64 tt, .int .i64 0, .slice A n c] 49)).alloc (.cells #[.int .i64 0, .int .i64 0, .int .i64 0, .slice none 0 0] 49)) (.cells #[] 5) (w.heap.size + 1) (by omega)).trans g1
  obtain ⟨k0, k1, k2, k3⟩ := cells4 g0
  obtain ⟨j0, j1, j2, j3⟩ := cells4 x2
  clear hsz
  go_enter Try.func62, Try.ntmps62
  go_wp2_with (
    at_builtin
    refine wpList_app rfl (.tmp 41) (.tmp 42) 33 rfl (w.heap.size + 2) 5 info5 Try.underlying33 (.slice (some ⟨w.heap.size + 2, 0, none⟩) 0 0) 0 [] rfl HE.out B m d pc rfl HP.out (by omega) hzE ?_
    intro v3 w3 ho3 hb3
    obtain ⟨A3, c3, rfl, hrd3⟩ := Own.rd ho3
    have x3 := (hb3.block w.heap.size (by omega)).trans x2
    have z3 := (hb3.block (w.heap.size + 1) (by omega)).trans z2
    have hl3 := hb3.size
    have hb03 := hbE.trans (hb3.mono (by omega))
    obtain ⟨N3, HN3⟩ : ∃ N3, 0 + m = N3 := ⟨_, rfl⟩
    rw [HN3] at ho3 hrd3 ⊢
    clear HN3 k0 k1 k2 k3 j0 j1 j2 j3
    have x4 := (alloc_old w3 (.cells #[.int .i64 seq, .int .i64 total, .int .i64 1, .slice A3 N3 c3] 49) w.heap.size (by omega)).trans x3
    have z4 := (alloc_old w3 (.cells #[.int .i64 seq, .int .i64 total, .int .i64 1, .slice A3 N3 c3] 49) (w.heap.size + 1) (by omega)).trans z3
    have e4 := alloc_at w3 (.cells #[.int .i64 seq, .int .i64 total, .int .i64 1, .slice A3 N3 c3] 49) _ rfl
    have hb34 := nkeep w3 (.cells #[.int .i64 seq, .int .i64 total, .int .i64 1, .slice A3 N3 c3] 49)
    have ho4 := ho3.later hb34
    have hb04 := bthen hb03 hb34
    have hsz4 := size_alloc w3 (.cells #[.int .i64 seq, .int .i64 total, .int .i64 1, .slice A3 N3 c3] 49)
    have fz := no_frozen z4
    obtain ⟨y0, y1, y2, y3⟩ := cells4 z4
    obtain ⟨k0, k1, k2, k3⟩ := cells4 x4)
  obtain ⟨hg9, hbut9, hbel9⟩ := set4 z4 (.int .i64 seq) (.int .i64 total) (.int .i64 1) (.slice A3 N3 c3)
  have HAD := hidT (addrB ho4 (base' := w.heap.size) (by omega))
  have HR := hidT ((ho4.but (by omega) hbut9).same)
  have HB := hidT (hbel9 _ _ hb04 (Nat.le_succ _))
  generalize (((((w3.alloc (.cells #[.int .i64 seq, .int .i64 total, .int .i64 1, .slice A3 N3 c3] 49)).setCell ⟨w.heap.size + 1, 0, none⟩ _).setCell ⟨w.heap.size + 1, 1, none⟩ _).setCell ⟨w.heap.size + 1, 2, none⟩ _).setCell ⟨w.heap.size + 1, 3, none⟩ _) = w9 at hg9 HR HB ⊢
  obtain ⟨i0, i1, i2, i3⟩ := cells4 hg9
  exact bodyPost_ret (v := .tuple #[.agg #[.int .i64 seq, .int .i64 total, .int .i64 1, .slice A3 N3 c3], .slice none 0 0, .bool false, .int .i64 0]) (by simp [results, Try.results62, go_sem, i0, i1, i2, i3]) rfl ⟨_, _, _, _, _, _, rfl, HR.out, Rd.nil_ _, HB.out, HAD.out, (fun b o e => by cases e)⟩

set_option maxHeartbeats 4000000 in
theorem raddF_next_whole (sq tt gt : Int) (b : List UInt8) (A : Option Addr) (n c : Nat) (seq : Int) (B : Option Addr) (m d : Nat) (pc : List UInt8) (w : World) (hr : Rd w A n c b) (hp : Rd w B m d pc) (hn : n ≤ 65536) (hm : m ≤ 65536)
    (hgt : gt ≠ 0) (h1 : 1 ≤ tt) (h2 : tt ≤ 32) (h3 : IntKind.i64.wrap (gt + 1) = tt) :
    Calls Try.prog 62 #[.agg #[.int .i64 sq, .int .i64 tt, .int .i64 gt, .slice A n c], .int .i64 seq, .int .i64 gt, .int .i64 tt, .slice B m d] w (AddIsF w ⟨none_, b ++ pc, true, 0⟩) := by
  have q1 : decide (tt < 1) = false := by simp; omega
  have q2 : decide (32 < tt) = false := by simp; omega
  have q3 : (gt != 0) = true := by simpa using hgt
  have q4 : (gt == 0) = false := by simpa using hgt
  obtain ⟨GT, HGT⟩ : ∃ GT, Hid (IntKind.i64.wrap (gt + 1) = GT) := ⟨_, hidT rfl⟩
  rw [HGT.out] at h3
  subst h3
  obtain ⟨g0, g1, hb0⟩ := two_alloc w (.cells #[.int .i64 sq, .int .i64 GT, .int .i64 gt, .slice A n c] 49) (.cells #[.int .i64 0, .int .i64 0, .int .i64 0, .slice none 0 0] 49)
  have hsz : ((w.alloc (.cells #[.int .i64 sq, .int .i64 GT, .int .i64 gt, .slice A n c] 49)).alloc (.cells #[.int .i64 0, .int .i64 0, .int .i64 0, .slice none 0 0] 49)).heap.size = w.heap.size + 2 := by simp only [size_alloc]
  have HE := hidT (madeB ((w.alloc (.cells #[.int .i64 sq, .int .i64 GT, .int .i64 gt, .slice A n c] 49)).alloc (.cells #[.int .i64 0, .int .i64 0, .int .i64 0, .slice none 0 0] 49)) (w.heap.size + 2) (by omega) 5 (w.heap.size + 2) hsz)
  have hbE : Below w.heap.size w (((w.alloc (.cells #[.int .i64 sq, .int .i64 GT, .int .i64 gt, .slice A n c] 49)).alloc (.cells #[.int .i64 0, .int .i64 0, .int .i64 0, .slice none 0 0] 49)).alloc (.cells #[] 5)) := bthen hb0 (nkeep _ _)
  have HP := hidT (hp.below hbE)
  have hzE : w.heap.size + 2 ≤ (((w.alloc (.cells #[.int .i64 sq, .int .i64 GT, .int .i64 gt, .slice A n c] 49)).alloc (.cells #[.int .i64 0, .int .i64 0, .int .i64 0, .slice none 0 0] 49)).alloc (.cells #[] 5)).heap.size := by simp only [size_alloc]; omega
  have x2 := (alloc_old ((w.alloc (.cells #[.int .i64 sq, .int .i64 GT, .int .i64 gt, .slice A n c] 49)).alloc (.cells #[.int .i64 0, .int .i64 0, .int .i64 0, .slice none 0 0] 49)) (.cells #[] 5) w.heap.size (by omega)).trans g0
  have z2 := (alloc_old ((w.alloc (.cells #[.int .i64 sq, .int .i64 GT, .int .i64 gt, .slice A n c] 49)).alloc (.cells #[.int .i64 0, .int .i64 0, .int .i64 0, .slice none 0 0] 49)) (.cells #[] 5) (w.heap.size + 1) (by omega)).trans g1
  obtain ⟨k0, k1, k2, k3⟩ := cells4 g0
  obtain ⟨j0, j1, j2, j3⟩ := cells4 x2
  clear hsz
  go_enter Try.func62, Try.ntmps62
  go_wp2_with (
    at_builtin
    refine wpList_app rfl (.tmp 41) (.tmp 42) 33 rfl (w.heap.size + 2) 5 info5 Try.underlying33 (.slice (some ⟨w.heap.size + 2, 0, none⟩) 0 0) 0 [] rfl HE.out B m d pc rfl HP.out (by omega) hzE ?_
    intro v3 w3 ho3 hb3
    obtain ⟨A3, c3, rfl, hrd3⟩ := Own.rd ho3
    have x3 := (hb3.block w.heap.size (by omega)).trans x2
    have z3 := (hb3.block (w.heap.size + 1) (by omega)).trans z2
    have hl3 := hb3.size
    have hb03 := hbE.trans (hb3.mono (by omega))
    obtain ⟨N3, HN3⟩ : ∃ N3, 0 + m = N3 := ⟨_, rfl⟩
    rw [HN3] at ho3 hrd3 ⊢
    clear HN3 k0 k1 k2 k3 j0 j1 j2 j3
    have x4 := (alloc_old w3 (.cells #[.int .i64 seq, .int .i64 GT, .int .i64 1, .slice A3 N3 c3] 49) w.heap.size (by omega)).trans x3
    have z4 := (alloc_old w3 (.cells #[.int .i64 seq, .int .i64 GT, .int .i64 1, .slice A3 N3 c3] 49) (w.heap.size + 1) (by omega)).trans z3
    have e4 := alloc_at w3 (.cells #[.int .i64 seq, .int .i64 GT, .int .i64 1, .slice A3 N3 c3] 49) _ rfl
    have hb34 := nkeep w3 (.cells #[.int .i64 seq, .int .i64 GT, .int .i64 1, .slice A3 N3 c3] 49)
    have ho4 := ho3.later hb34
    have hb04 := bthen hb03 hb34
    have hsz4 := size_alloc w3 (.cells #[.int .i64 seq, .int .i64 GT, .int .i64 1, .slice A3 N3 c3] 49)
    have fz := no_frozen z4
    obtain ⟨y0, y1, y2, y3⟩ := cells4 z4
    obtain ⟨k0, k1, k2, k3⟩ := cells4 x4)
  obtain ⟨w4, HW4⟩ : ∃ w4, Hid (w3.alloc (.cells #[.int .i64 seq, .int .i64 GT, .int .i64 1, .slice A3 N3 c3] 49) = w4) := ⟨_, hidT rfl⟩
  rw [HW4.out] at x4 z4 e4 ho4 hb04 hsz4 fz y0 y1 y2 y3 k0 k1 k2 k3 hb34 ⊢
  clear HW4
  obtain ⟨d0, d1, d2, d3⟩ := cells4 e4
  obtain ⟨r, HRR⟩ : ∃ r, Hid (w3.heap.size = r) := ⟨_, hidT rfl⟩
  rw [HRR.out] at e4 hsz4 hb34 hl3 d0 d1 d2 d3 ⊢
  have hgr : w.heap.size + 1 < r := by omega
  have hrb : ∀ w', Below r w4 w' → Below w.heap.size w w' := fun w' hb => hb04.trans (hb.mono (by omega))
  have kk0 := fun w' (hb : Below r w4 w') => (hb.cell (p := ⟨w.heap.size, 0, none⟩) (by show w.heap.size < r; omega)).trans k0
  have kk2 := fun w' (hb : Below r w4 w') => (hb.cell (p := ⟨w.heap.size, 2, none⟩) (by show w.heap.size < r; omega)).trans k2
  have kk3 := fun w' (hb : Below r w4 w') => (hb.cell (p := ⟨w.heap.size, 3, none⟩) (by show w.heap.size < r; omega)).trans k3
  have HRB := hidT hrb
  have HR0 := hidT hr
  have HP0 := hidT hp
  have wrp := HGT.out
  have D0 : Below w4.heap.size w4 (w4.alloc (.cells #[] 5)).drew := ((Below.refl _ _).alloc (Nat.le_refl _) _).drew
  have D1 : Below w4.heap.size w4 (w4.alloc (.cells #[] 5)) := (Below.refl _ _).alloc (Nat.le_refl _) _
  have ME : Own (w4.alloc (.cells #[] 5)).drew w4.heap.size 5 (.slice (some ⟨w4.heap.size, 0, none⟩) 0 0) 0 [] := madeB w4 w4.heap.size (Nat.le_refl _) _ _ rfl
  have HME := hidT ME
  clear ME
  have hrsz : r ≤ w4.heap.size := by omega
  have hrlt : r < w4.heap.size := by omega
  have E4 := hidT e4
  have Z4 := hidT z4
  clear hsz4 hrb hr hp k0 k1 k2 k3 d0 d1 d2 d3 y0 y1 y2 y3 fz x4 x3 x2 z3 z2 g0 g1 e4 z4 ho3 ho4 hb3 HE HP hbE hrd3
  go_region_held_law (fun w' => Below r w4 w')
    (first | exact (Below.refl _ _).drew | exact hbF | exact hb6.mono hrsz | exact hb5.mono hrsz | exact D1.mono hrsz | exact D0.mono hrsz)
    (first
      | (refine step_appD 57 (by rfl) (by rfl) (.tmp 54) (.tmp 56) 33 (by rfl) w4.heap.size 5 info5 Try.underlying33 (.slice (some ⟨w4.heap.size, 0, none⟩) 0 0) 0 [] (by rfl) (by exact HME.out) A n c b (by rfl) (by exact HR0.out.below (HRB.out _ (D0.mono hrsz))) (by omega) (by exact D0.size) ?_
         intro v5 w5 ho5 hb5'
         have hb5 : Below w4.heap.size w4 w5 := D0.trans hb5')
      | (refine step_appD 59 (by rfl) (by rfl) (.tmp 57) (.tmp 58) 33 (by rfl) w4.heap.size 5 info5 Try.underlying33 v5 (0 + n) ([] ++ b) (by rfl) (by exact ho5) B m d pc (by rfl) (by exact HP0.out.below (HRB.out _ (hb5.mono hrsz))) (by omega) (by exact hb5.size) ?_
         intro v6 w6 ho6' hb6'
         have ho6 : Own w6 w4.heap.size 5 v6 (n + m) (b ++ pc) := by simpa using ho6'
         obtain ⟨A6, c6, rfl, hrd6⟩ := Own.rd ho6
         have hb6 : Below w4.heap.size w4 w6 := hb5.trans hb6'
         have g6 := (hb6.block _ hrlt).trans E4.out
         obtain ⟨y0, y1, y2, y3⟩ := cells4 g6
         have f0 := no_frozen g6 0
         have f1 := no_frozen g6 1
         have f2 := no_frozen g6 2
         have f3 := no_frozen g6 3
         have hbF : Below r w4 ((((w6.setCell ⟨r, 0, none⟩ (.int .i64 sq)).setCell ⟨r, 1, none⟩ (.int .i64 GT)).setCell ⟨r, 2, none⟩ (.int .i64 GT)).setCell ⟨r, 3, none⟩ (.slice A6 (n + m) c6)) := (set4 g6 _ _ _ _).2.2 _ _ (hb6.mono hrsz) (Nat.le_refl _))
      | fail)
  obtain ⟨hgF, butF, belF⟩ := set4 g6 (.int .i64 sq) (.int .i64 GT) (.int .i64 GT) (.slice A6 (n + m) c6)
  have ho7 := ho6.but hrlt butF
  have z7 := (butF.2 (w.heap.size + 1) (by omega)).trans ((hb6.block _ (by omega)).trans Z4.out)
  have hb07 := HRB.out _ hbF
  clear hbF belF butF g6 y0 y1 y2 y3 f0 f1 f2 f3 kk0 kk2 kk3 hrd6 ho6 ho6' hb6 hb6' hb5 hb5' ho5
  generalize ((((w6.setCell ⟨r, 0, none⟩ (.int .i64 sq)).setCell ⟨r, 1, none⟩ (.int .i64 GT)).setCell ⟨r, 2, none⟩ (.int .i64 GT)).setCell ⟨r, 3, none⟩ (.slice A6 (n + m) c6)) = w7 at hgF ho7 z7 hb07 ⊢
  obtain ⟨k0, k1, k2, k3⟩ := cells4 hgF
  obtain ⟨y0, y1, y2, y3⟩ := cells4 z7
  have fz := no_frozen z7
  go_wp2_with fail
  go_region
  obtain ⟨hg2, hbut, hbel⟩ := set4 z7 (.int .i64 0) (.int .i64 0) (.int .i64 0) (.slice none 0 0)
  have HAD := hidT (addrB ho7 (base' := w.heap.size) (by have := blk_lt Z4.out; omega))
  have hr5 := (ho7.but (by omega) hbut).same
  have hb5 := hbel _ _ hb07 (Nat.le_succ _)
  clear hbut hbel
  generalize ((((w7.setCell ⟨w.heap.size + 1, 0, none⟩ (.int .i64 0)).setCell ⟨w.heap.size + 1, 1, none⟩ (.int .i64 0)).setCell ⟨w.heap.size + 1, 2, none⟩ (.int .i64 0)).setCell ⟨w.heap.size + 1, 3, none⟩ (.slice none 0 0)) = w8 at hg2 hr5 hb5 ⊢
  obtain ⟨i0, i1, i2, i3⟩ := cells4 (w := w8.drew) hg2
  have HR := hidT hr5
  clear hr5 k0 k1 k2 k3 y0 y1 y2 y3 fz
  go_wp2
  exact bodyPost_ret (v := .tuple #[.agg #[.int .i64 0, .int .i64 0, .int .i64 0, .slice none 0 0], .slice A6 (n + m) c6, .bool true, .int .i64 0]) (by simp [results, Try.results62, go_sem, i0, i1, i2, i3]) rfl ⟨none, 0, 0, _, _, _, rfl, Rd.nil_ _, HR.out.drew, hb5.drew, (fun b o e => by cases e), HAD.out⟩

set_option maxHeartbeats 4000000 in
theorem raddF_next_on (sq tt gt : Int) (b : List UInt8) (A : Option Addr) (n c : Nat) (seq : Int) (B : Option Addr) (m d : Nat) (pc : List UInt8) (w : World) (hr : Rd w A n c b) (hp : Rd w B m d pc) (hn : n ≤ 65536) (hm : m ≤ 65536)
    (hgt : gt ≠ 0) (h1 : 1 ≤ tt) (h2 : tt ≤ 32) (h3 : IntKind.i64.wrap (gt + 1) ≠ tt) :
    Calls Try.prog 62 #[.agg #[.int .i64 sq, .int .i64 tt, .int .i64 gt, .slice A n c], .int .i64 seq, .int .i64 gt, .int .i64 tt, .slice B m d] w (AddIsF w ⟨⟨sq, tt, IntKind.i64.wrap (gt + 1), b ++ pc⟩, [], false, 0⟩) := by
  have q1 : decide (tt < 1) = false := by simp; omega
  have q2 : decide (32 < tt) = false := by simp; omega
  have q3 : (gt != 0) = true := by simpa using hgt
  have q4 : (gt == 0) = false := by simpa using hgt
  obtain ⟨GT, HGT⟩ : ∃ GT, Hid (IntKind.i64.wrap (gt + 1) = GT) := ⟨_, hidT rfl⟩
  rw [HGT.out] at h3 ⊢
  have q7 : (GT == tt) = false := by simpa using h3
  obtain ⟨g0, g1, hb0⟩ := two_alloc w (.cells #[.int .i64 sq, .int .i64 tt, .int .i64 gt, .slice A n c] 49) (.cells #[.int .i64 0, .int .i64 0, .int .i64 0, .slice none 0 0] 49)
  have hsz : ((w.alloc (.cells #[.int .i64 sq, .int .i64 tt, .int .i64 gt, .slice A n c] 49)).alloc (.cells #[.int .i64 0, .int .i64 0, .int .i64 0, .slice none 0 0] 49)).heap.size = w.heap.size + 2 := by simp only [size_alloc]
  have HE := hidT (madeB ((w.alloc (.cells #[.int .i64 sq, .int .i64 tt, .int .i64 gt, .slice A n c] 49)).alloc (.cells #[.int .i64 0, .int .i64 0, .int .i64 0, .slice none 0 0] 49)) (w.heap.size + 2) (by omega) 5 (w.heap.size + 2) hsz)
  have hbE : Below w.heap.size w (((w.alloc (.cells #[.int .i64 sq, .int .i64 tt, .int .i64 gt, .slice A n c] 49)).alloc (.cells #[.int .i64 0, .int .i64 0, .int .i64 0, .slice none 0 0] 49)).alloc (.cells #[] 5)) := bthen hb0 (nkeep _ _)
  have HP := hidT (hp.below hbE)
  have hzE : w.heap.size + 2 ≤ (((w.alloc (.cells #[.int .i64 sq, .int .i64 tt, .int .i64 gt, .slice A n c] 49)).alloc (.cells #[.int .i64 0, .int .i64 0, .int .i64 0, .slice none 0 0] 49)).alloc (.cells #[] 5)).heap.size := by simp only [size_alloc]; omega
  have x2 := (alloc_old ((w.alloc (.cells #[.int .i64 sq, .int .i64 tt, .int .i64 gt, .slice A n c] 49)).alloc (.cells #[.int .i64 0, .int .i64 0, .int .i64 0, .slice none 0 0] 49)) (.cells #[] 5) w.heap.size (by omega)).trans g0
  have z2 := (alloc_old ((w.alloc (.cells #[.int .i64 sq, .int .i64 tt, .int .i64 gt, .slice A n c] 49)).alloc (.cells #[.int .i64 0, .int .i64 0, .int .i64 0, .slice none 0 0] 49)) (.cells #[] 5) (w.heap.size + 1) (by omega)).trans g1
  obtain ⟨k0, k1, k2, k3⟩ := cells4 g0
  obtain ⟨j0, j1, j2, j3⟩ := cells4 x2
  clear hsz
  go_enter Try.func62, Try.ntmps62
  go_wp2_with (
    at_builtin
    refine wpList_app rfl (.tmp 41) (.tmp 42) 33 rfl (w.heap.size + 2) 5 info5 Try.underlying33 (.slice (some ⟨w.heap.size + 2, 0, none⟩) 0 0) 0 [] rfl HE.out B m d pc rfl HP.out (by omega) hzE ?_
    intro v3 w3 ho3 hb3
    obtain ⟨A3, c3, rfl, hrd3⟩ := Own.rd ho3
    have x3 := (hb3.block w.heap.size (by omega)).trans x2
    have z3 := (hb3.block (w.heap.size + 1) (by omega)).trans z2
    have hl3 := hb3.size
    have hb03 := hbE.trans (hb3.mono (by omega))
    obtain ⟨N3, HN3⟩ : ∃ N3, 0 + m = N3 := ⟨_, rfl⟩
    rw [HN3] at ho3 hrd3 ⊢
    clear HN3 k0 k1 k2 k3 j0 j1 j2 j3
    have x4 := (alloc_old w3 (.cells #[.int .i64 seq, .int .i64 tt, .int .i64 1, .slice A3 N3 c3] 49) w.heap.size (by omega)).trans x3
    have z4 := (alloc_old w3 (.cells #[.int .i64 seq, .int .i64 tt, .int .i64 1, .slice A3 N3 c3] 49) (w.heap.size + 1) (by omega)).trans z3
    have e4 := alloc_at w3 (.cells #[.int .i64 seq, .int .i64 tt, .int .i64 1, .slice A3 N3 c3] 49) _ rfl
    have hb34 := nkeep w3 (.cells #[.int .i64 seq, .int .i64 tt, .int .i64 1, .slice A3 N3 c3] 49)
    have ho4 := ho3.later hb34
    have hb04 := bthen hb03 hb34
    have hsz4 := size_alloc w3 (.cells #[.int .i64 seq, .int .i64 tt, .int .i64 1, .slice A3 N3 c3] 49)
    have fz := no_frozen z4
    obtain ⟨y0, y1, y2, y3⟩ := cells4 z4
    obtain ⟨k0, k1, k2, k3⟩ := cells4 x4)
  obtain ⟨w4, HW4⟩ : ∃ w4, Hid (w3.alloc (.cells #[.int .i64 seq, .int .i64 tt, .int .i64 1, .slice A3 N3 c3] 49) = w4) := ⟨_, hidT rfl⟩
  rw [HW4.out] at x4 z4 e4 ho4 hb04 hsz4 fz y0 y1 y2 y3 k0 k1 k2 k3 hb34 ⊢
  clear HW4
  obtain ⟨d0, d1, d2, d3⟩ := cells4 e4
  obtain ⟨r, HRR⟩ : ∃ r, Hid (w3.heap.size = r) := ⟨_, hidT rfl⟩
  rw [HRR.out] at e4 hsz4 hb34 hl3 d0 d1 d2 d3 ⊢
  have hgr : w.heap.size + 1 < r := by omega
  have hrb : ∀ w', Below r w4 w' → Below w.heap.size w w' := fun w' hb => hb04.trans (hb.mono (by omega))
  have kk0 := fun w' (hb : Below r w4 w') => (hb.cell (p := ⟨w.heap.size, 0, none⟩) (by show w.heap.size < r; omega)).trans k0
  have kk2 := fun w' (hb : Below r w4 w') => (hb.cell (p := ⟨w.heap.size, 2, none⟩) (by show w.heap.size < r; omega)).trans k2
  have kk3 := fun w' (hb : Below r w4 w') => (hb.cell (p := ⟨w.heap.size, 3, none⟩) (by show w.heap.size < r; omega)).trans k3
  have HRB := hidT hrb
  have HR0 := hidT hr
  have HP0 := hidT hp
  have wrp := HGT.out
  have D0 : Below w4.heap.size w4 (w4.alloc (.cells #[] 5)).drew := ((Below.refl _ _).alloc (Nat.le_refl _) _).drew
  have D1 : Below w4.heap.size w4 (w4.alloc (.cells #[] 5)) := (Below.refl _ _).alloc (Nat.le_refl _) _
  have ME : Own (w4.alloc (.cells #[] 5)).drew w4.heap.size 5 (.slice (some ⟨w4.heap.size, 0, none⟩) 0 0) 0 [] := madeB w4 w4.heap.size (Nat.le_refl _) _ _ rfl
  have HME := hidT ME
  clear ME
  have hrsz : r ≤ w4.heap.size := by omega
  have hrlt : r < w4.heap.size := by omega
  have E4 := hidT e4
  have Z4 := hidT z4
  clear hsz4 hrb hr hp k0 k1 k2 k3 d0 d1 d2 d3 y0 y1 y2 y3 fz x4 x3 x2 z3 z2 g0 g1 e4 z4 ho3 ho4 hb3 HE HP hbE hrd3
  go_region_held_law (fun w' => Below r w4 w')
    (first | exact (Below.refl _ _).drew | exact hbF | exact hb6.mono hrsz | exact hb5.mono hrsz | exact D1.mono hrsz | exact D0.mono hrsz)
    (first
      | (refine step_appD 57 (by rfl) (by rfl) (.tmp 54) (.tmp 56) 33 (by rfl) w4.heap.size 5 info5 Try.underlying33 (.slice (some ⟨w4.heap.size, 0, none⟩) 0 0) 0 [] (by rfl) (by exact HME.out) A n c b (by rfl) (by exact HR0.out.below (HRB.out _ (D0.mono hrsz))) (by omega) (by exact D0.size) ?_
         intro v5 w5 ho5 hb5'
         have hb5 : Below w4.heap.size w4 w5 := D0.trans hb5')
      | (refine step_appD 59 (by rfl) (by rfl) (.tmp 57) (.tmp 58) 33 (by rfl) w4.heap.size 5 info5 Try.underlying33 v5 (0 + n) ([] ++ b) (by rfl) (by exact ho5) B m d pc (by rfl) (by exact HP0.out.below (HRB.out _ (hb5.mono hrsz))) (by omega) (by exact hb5.size) ?_
         intro v6 w6 ho6' hb6'
         have ho6 : Own w6 w4.heap.size 5 v6 (n + m) (b ++ pc) := by simpa using ho6'
         obtain ⟨A6, c6, rfl, hrd6⟩ := Own.rd ho6
         have hb6 : Below w4.heap.size w4 w6 := hb5.trans hb6'
         have g6 := (hb6.block _ hrlt).trans E4.out
         obtain ⟨y0, y1, y2, y3⟩ := cells4 g6
         have f0 := no_frozen g6 0
         have f1 := no_frozen g6 1
         have f2 := no_frozen g6 2
         have f3 := no_frozen g6 3
         have hbF : Below r w4 ((((w6.setCell ⟨r, 0, none⟩ (.int .i64 sq)).setCell ⟨r, 1, none⟩ (.int .i64 tt)).setCell ⟨r, 2, none⟩ (.int .i64 GT)).setCell ⟨r, 3, none⟩ (.slice A6 (n + m) c6)) := (set4 g6 _ _ _ _).2.2 _ _ (hb6.mono hrsz) (Nat.le_refl _))
      | fail)
  obtain ⟨hgF, butF, belF⟩ := set4 g6 (.int .i64 sq) (.int .i64 tt) (.int .i64 GT) (.slice A6 (n + m) c6)
  have ho7 := ho6.but hrlt butF
  have z7 := (butF.2 (w.heap.size + 1) (by omega)).trans ((hb6.block _ (by omega)).trans Z4.out)
  have hb07 := HRB.out _ hbF
  clear hbF belF butF g6 y0 y1 y2 y3 f0 f1 f2 f3 kk0 kk2 kk3 hrd6 ho6 ho6' hb6 hb6' hb5 hb5' ho5
  generalize ((((w6.setCell ⟨r, 0, none⟩ (.int .i64 sq)).setCell ⟨r, 1, none⟩ (.int .i64 tt)).setCell ⟨r, 2, none⟩ (.int .i64 GT)).setCell ⟨r, 3, none⟩ (.slice A6 (n + m) c6)) = w7 at hgF ho7 z7 hb07 ⊢
  obtain ⟨k0, k1, k2, k3⟩ := cells4 hgF
  obtain ⟨y0, y1, y2, y3⟩ := cells4 z7
  have fz := no_frozen z7
  go_wp2
  obtain ⟨hg9, hbut9, hbel9⟩ := set4 z7 (.int .i64 sq) (.int .i64 tt) (.int .i64 GT) (.slice A6 (n + m) c6)
  have HAD := hidT (addrB ho7 (base' := w.heap.size) (by have := blk_lt Z4.out; omega))
  have HR := hidT ((ho7.but (by omega) hbut9).same)
  have HB := hidT (hbel9 _ _ hb07 (Nat.le_succ _))
  generalize ((((w7.setCell ⟨w.heap.size + 1, 0, none⟩ _).setCell ⟨w.heap.size + 1, 1, none⟩ _).setCell ⟨w.heap.size + 1, 2, none⟩ _).setCell ⟨w.heap.size + 1, 3, none⟩ _) = w9 at hg9 HR HB ⊢
  obtain ⟨i0, i1, i2, i3⟩ := cells4 hg9
  exact bodyPost_ret (v := .tuple #[.agg #[.int .i64 sq, .int .i64 tt, .int .i64 GT, .slice A6 (n + m) c6], .slice none 0 0, .bool false, .int .i64 0]) (by simp [results, Try.results62, go_sem, i0, i1, i2, i3]) rfl ⟨_, _, _, _, _, _, rfl, HR.out, Rd.nil_ _, HB.out, HAD.out, (fun b o e => by cases e)⟩
theorem raddF_any (p : Pt) (A : Option Addr) (n c : Nat) (seq index total : Int) (B : Option Addr) (m d : Nat) (pc : List UInt8) (w : World) (hr : Rd w A n c p.b) (hp : Rd w B m d pc) (hn : n ≤ 65536) (hm : m ≤ 65536) (hf : fits p index total = true) :
    Calls Try.prog 62 #[.agg #[.int .i64 p.seq, .int .i64 p.total, .int .i64 p.got, .slice A n c], .int .i64 seq, .int .i64 index, .int .i64 total, .slice B m d] w (AddIsF w (addOf p seq index total pc)) := by
  obtain ⟨sq, tt, gt, b⟩ := p
  dsimp only at hr hf ⊢
  unfold addOf
  · rw [if_pos hf]
    have hf' := hf
    simp only [fits, Bool.and_eq_true, decide_eq_true_eq, Bool.or_eq_true] at hf'
    obtain ⟨⟨⟨f1, f2⟩, rfl⟩, f4⟩ := hf'
    by_cases h0 : index = 0
    · subst h0
      have e : nextP ⟨sq, tt, 0, b⟩ seq total pc = ⟨seq, total, 1, pc⟩ := rfl
      rw [e]
      dsimp only
      by_cases h1 : 1 = total
      · subst h1
        rw [if_pos rfl]
        exact raddF_first_whole sq tt 0 b A n c seq B m d pc w hr hp hn hm rfl
      · rw [if_neg h1]
        exact raddF_first_on sq tt 0 b A n c seq total B m d pc w hr hp hn hm rfl (by omega) f2
    · obtain rfl : total = tt := by rcases f4 with h | h; exact absurd h h0; exact h
      have e : nextP ⟨sq, total, index, b⟩ seq total pc = ⟨sq, total, IntKind.i64.wrap (index + 1), b ++ pc⟩ := by unfold nextP; rw [if_neg h0]
      rw [e]
      dsimp only
      by_cases h1 : IntKind.i64.wrap (index + 1) = total
      · rw [if_pos h1]
        exact raddF_next_whole sq total index b A n c seq B m d pc w hr hp hn hm h0 f1 f2 h1
      · rw [if_neg h1]
        exact raddF_next_on sq total index b A n c seq B m d pc w hr hp hn hm h0 f1 f2 h1
end Go.Proofs.Ytdchgnmkeefffaa
