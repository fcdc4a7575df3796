import Derived.Test.YtdchgnmkeefffaaLDX
import Derived.Test.YtdchgnmkeefffaaLRX
import Derived.Test.YtdchgnmkeefffaaLCX
import Derived.Test.YtdchgnmkeefffaaRAX
import Derived.Deep.RegionHeldLaw
set_option maxRecDepth 100000
/- What the document's First, Message and Control come to. -/
namespace Go.Proofs.Ytdchgnmkeefffaa
open Go.RowKit
set_option linter.unusedVariables false

/-- An entry that is a lane's, or none, and whether there is one. -/
def GetR (S : Nat → Prop) (w : World) (o : Option Lane.En) (e : Ending) (w' : World) : Prop := ∃ v, e = .returned (.tuple #[v, .bool o.isSome]) ∧ IsEn S w' v (o.getD Lane.En.zero) ∧ Below w.heap.size w w'
set_option maxHeartbeats 2000000 in
theorem rmessage_any {S : Nat → Prop} (v : Value) (l : Lane.Ln) (w : World) (h : IsLane S w v l) : Calls Try.prog 32 #[v] w (GetR S w (Lane.message l)) := by
  obtain ⟨A, n, c, B, m, d, rfl, hE, hB, hWI⟩ := h
  have hle := hE.le
  have hlen := hE.size
  obtain ⟨t0, t1, hb⟩ := two_alloc w (.cells #[.slice A n c, .int .i64 l.p.seq, .int .i64 l.p.total, .int .i64 l.p.got, .slice B m d] 51) (.cells ez 59)
  obtain ⟨W, hWW⟩ : ∃ W, (w.alloc (.cells #[.slice A n c, .int .i64 l.p.seq, .int .i64 l.p.total, .int .i64 l.p.got, .slice B m d] 51)).alloc (.cells ez 59) = W := ⟨_, rfl⟩
  have HS : Hid (W.heap.size = w.heap.size + 2) := by rw [← hWW, size_alloc, size_alloc]; exact hidT rfl
  rw [hWW] at t0 t1 hb
  obtain ⟨g, hg⟩ : ∃ g, w.heap.size = g := ⟨_, rfl⟩
  rw [hg] at t0 t1
  have HG := hidT hg
  have HW := hidT hWW
  have T0 := hidT t0
  have T1 := hidT t1
  have HB := hidT hb
  have HE := hidT hE
  have HLEN := hidT hlen
  obtain ⟨e0, e1, e2, e3, e4⟩ := cells5 t0
  clear t0 t1 hb hB hWI hWW hE hlen
  obtain ⟨o, ho⟩ : ∃ o, Lane.message l = o := ⟨_, rfl⟩
  rw [ho]
  have he : o = l.es[l.es.findIdx Lane.isMsg]? := by rw [← ho]; exact find_idx _ _
  have HO := hidT he
  clear ho he
  rw [← HW.out] at e0 e1 e2 e3 e4
  go_enter Try.func32, Try.ntmps32
  go_wp2
  rw [HW.out] at e0 e1 e2 e3 e4 ⊢
  clear hg
  go_loop [4] (fun i => ∃ j : Nat, j ≤ n ∧ i = .int .i64 j ∧ Hid (∀ i y, i < j → l.es[i]? = some y → Lane.isMsg y = false)) (fun i => n - (intOf i).toNat)
  case atStart => exact ⟨0, Nat.zero_le _, rfl, hidT (fun i y hi => absurd hi (by omega))⟩
  case round =>
    obtain ⟨j, hj, rfl, HN⟩ := hrel
    by_cases hjn : j < n
    · obtain ⟨b, o', x, BA, bn, bc, LA, ln, lc, rfl, hx, hrb, hrl, hwb, hwl, hcs⟩ := HE.out.told hjn
      obtain ⟨c0, c1, c2, c3, c4⟩ := hcs W HB.out
      have hi : IsEn S w (.agg #[.int .i64 x.k, .int .i64 x.q, .slice BA bn bc, .slice LA ln lc, .bool x.h]) x := ⟨BA, bn, bc, LA, ln, lc, rfl, hrb, hrl, hwb, hwl⟩
      have HI := hidT hi
      have HX := hidT hx
      have x1 : (0 : Int) ≤ (j : Int) := by omega
      have x2 : (j : Int) < (n : Int) := by omega
      clear hcs hi hrb hrl hwb hwl hx
      cases hp : Lane.isMsg x with
      | true =>
        have q : (x.k == 1) = true := by simpa [Lane.isMsg] using hp
        obtain rfl : some x = o := by rw [HO.out, idx_at HN.out HX.out hp, HX.out]
        have t1 := T1.out
        clear hp
        go_wp2_with (
          refine wpList_stI rfl 59 _ _ rfl (g + 1) #[.int .i64 x.k, .int .i64 x.q, .slice BA bn bc, .slice LA ln lc, .bool x.h] rfl rfl _ _ t1 sizeE rfl (by simp [Value.oneCell']) ?_
          intro w7 hg7 hbut hbel)
        obtain ⟨r0, r1, r2, r3, r4⟩ := cells5 hg7
        have hgg := HG.out
        exact bodyPost_ret (v := .tuple #[.agg #[.int .i64 x.k, .int .i64 x.q, .slice BA bn bc, .slice LA ln lc, .bool x.h], .bool true]) (by simp [results, Try.results32, go_sem, r0, r1, r2, r3, r4]) rfl
          (⟨_, rfl, HI.out.below (hbel _ _ HB.out (by omega)), hbel _ _ HB.out (by omega)⟩)
      | false =>
        have q : (x.k == 1) = false := by simpa [Lane.isMsg] using hp
        have HP := hidT hp
        clear hp
        go_wp2
        go_round
        case rel =>
          refine ⟨j + 1, by omega, by go_num, hidT (fun i y hi hy => ?_)⟩
          by_cases hij : i = j
          · subst hij
            rw [HX.out] at hy
            injection hy with hy
            subst hy
            exact HP.out
          · exact HN.out i y (by omega) hy
        case measure => simp [intOf]; omega
    · obtain rfl : n = j := by omega
      obtain rfl : none = o := by rw [HO.out, idx_none (fun i y hi hy => HN.out i y (by have := HLEN.out; omega) hy), List.getElem?_eq_none (Nat.le_refl _)]
      have t1 := T1.out
      go_wp2_with (
        refine wpList_stI rfl 59 _ _ rfl (g + 1) ez rfl rfl _ _ t1 sizeE rfl (by kernel_rfl) ?_
        intro w7 hg7 hbut hbel)
      obtain ⟨r0, r1, r2, r3, r4⟩ := cells5 hg7
      have hgg := HG.out
      exact bodyPost_ret (v := .tuple #[.agg ez, .bool false]) (by simp [results, Try.results32, go_sem, r0, r1, r2, r3, r4]) rfl
        (⟨_, rfl, IsEn.zero _ _, hbel _ _ HB.out (by omega)⟩)

set_option maxHeartbeats 2000000 in
theorem rcontrol_any {S : Nat → Prop} (v : Value) (l : Lane.Ln) (w : World) (h : IsLane S w v l) : Calls Try.prog 30 #[v] w (GetR S w (Lane.control l)) := by
  obtain ⟨A, n, c, B, m, d, rfl, hE, hB, hWI⟩ := h
  have hle := hE.le
  have hlen := hE.size
  obtain ⟨t0, t1, hb⟩ := two_alloc w (.cells #[.slice A n c, .int .i64 l.p.seq, .int .i64 l.p.total, .int .i64 l.p.got, .slice B m d] 51) (.cells ez 59)
  obtain ⟨W, hWW⟩ : ∃ W, (w.alloc (.cells #[.slice A n c, .int .i64 l.p.seq, .int .i64 l.p.total, .int .i64 l.p.got, .slice B m d] 51)).alloc (.cells ez 59) = W := ⟨_, rfl⟩
  have HS : Hid (W.heap.size = w.heap.size + 2) := by rw [← hWW, size_alloc, size_alloc]; exact hidT rfl
  rw [hWW] at t0 t1 hb
  obtain ⟨g, hg⟩ : ∃ g, w.heap.size = g := ⟨_, rfl⟩
  rw [hg] at t0 t1
  have HG := hidT hg
  have HW := hidT hWW
  have T0 := hidT t0
  have T1 := hidT t1
  have HB := hidT hb
  have HE := hidT hE
  have HLEN := hidT hlen
  obtain ⟨e0, e1, e2, e3, e4⟩ := cells5 t0
  clear t0 t1 hb hB hWI hWW hE hlen
  obtain ⟨o, ho⟩ : ∃ o, Lane.control l = o := ⟨_, rfl⟩
  rw [ho]
  have he : o = l.es[l.es.findIdx (fun e : Lane.En => !Lane.isMsg e)]? := by rw [← ho]; exact find_idx _ _
  have HO := hidT he
  clear ho he
  rw [← HW.out] at e0 e1 e2 e3 e4
  go_enter Try.func30, Try.ntmps30
  go_wp2
  rw [HW.out] at e0 e1 e2 e3 e4 ⊢
  clear hg
  go_loop [4] (fun i => ∃ j : Nat, j ≤ n ∧ i = .int .i64 j ∧ Hid (∀ i y, i < j → l.es[i]? = some y → (fun e : Lane.En => !Lane.isMsg e) y = false)) (fun i => n - (intOf i).toNat)
  case atStart => exact ⟨0, Nat.zero_le _, rfl, hidT (fun i y hi => absurd hi (by omega))⟩
  case round =>
    obtain ⟨j, hj, rfl, HN⟩ := hrel
    by_cases hjn : j < n
    · obtain ⟨b, o', x, BA, bn, bc, LA, ln, lc, rfl, hx, hrb, hrl, hwb, hwl, hcs⟩ := HE.out.told hjn
      obtain ⟨c0, c1, c2, c3, c4⟩ := hcs W HB.out
      have hi : IsEn S w (.agg #[.int .i64 x.k, .int .i64 x.q, .slice BA bn bc, .slice LA ln lc, .bool x.h]) x := ⟨BA, bn, bc, LA, ln, lc, rfl, hrb, hrl, hwb, hwl⟩
      have HI := hidT hi
      have HX := hidT hx
      have x1 : (0 : Int) ≤ (j : Int) := by omega
      have x2 : (j : Int) < (n : Int) := by omega
      clear hcs hi hrb hrl hwb hwl hx
      cases hp : (fun e : Lane.En => !Lane.isMsg e) x with
      | true =>
        have q : (x.k == 1) = false := by simpa [Lane.isMsg] using hp
        obtain rfl : some x = o := by rw [HO.out, idx_at HN.out HX.out hp, HX.out]
        have t1 := T1.out
        clear hp
        go_wp2_with (
          refine wpList_stI rfl 59 _ _ rfl (g + 1) #[.int .i64 x.k, .int .i64 x.q, .slice BA bn bc, .slice LA ln lc, .bool x.h] rfl rfl _ _ t1 sizeE rfl (by simp [Value.oneCell']) ?_
          intro w7 hg7 hbut hbel)
        obtain ⟨r0, r1, r2, r3, r4⟩ := cells5 hg7
        have hgg := HG.out
        exact bodyPost_ret (v := .tuple #[.agg #[.int .i64 x.k, .int .i64 x.q, .slice BA bn bc, .slice LA ln lc, .bool x.h], .bool true]) (by simp [results, Try.results30, go_sem, r0, r1, r2, r3, r4]) rfl
          (⟨_, rfl, HI.out.below (hbel _ _ HB.out (by omega)), hbel _ _ HB.out (by omega)⟩)
      | false =>
        have q : (x.k == 1) = true := by simpa [Lane.isMsg] using hp
        have HP := hidT hp
        clear hp
        go_wp2
        go_round
        case rel =>
          refine ⟨j + 1, by omega, by go_num, hidT (fun i y hi hy => ?_)⟩
          by_cases hij : i = j
          · subst hij
            rw [HX.out] at hy
            injection hy with hy
            subst hy
            exact HP.out
          · exact HN.out i y (by omega) hy
        case measure => simp [intOf]; omega
    · obtain rfl : n = j := by omega
      obtain rfl : none = o := by rw [HO.out, idx_none (fun i y hi hy => HN.out i y (by have := HLEN.out; omega) hy), List.getElem?_eq_none (Nat.le_refl _)]
      have t1 := T1.out
      go_wp2_with (
        refine wpList_stI rfl 59 _ _ rfl (g + 1) ez rfl rfl _ _ t1 sizeE rfl (by kernel_rfl) ?_
        intro w7 hg7 hbut hbel)
      obtain ⟨r0, r1, r2, r3, r4⟩ := cells5 hg7
      have hgg := HG.out
      exact bodyPost_ret (v := .tuple #[.agg ez, .bool false]) (by simp [results, Try.results30, go_sem, r0, r1, r2, r3, r4]) rfl
        (⟨_, rfl, IsEn.zero _ _, hbel _ _ HB.out (by omega)⟩)
end Go.Proofs.Ytdchgnmkeefffaa
/- What the document's Many, Done and last come to. -/
namespace Go.Proofs.Ytdchgnmkeefffaa
open Go.RowKit
set_option linter.unusedVariables false

set_option maxHeartbeats 1000000 in
theorem rmany_any {S : Nat → Prop} (v : Value) (l : Lane.Ln) (w : World) (h : IsLane S w v l) : Calls Try.prog 22 #[v] w (IntIs w (Lane.many l : Nat)) := by
  obtain ⟨A, n, c, B, m, d, rfl, hE, hB, hW⟩ := h
  have hle := hE.le
  have hlen := hE.size
  have y0 := alloc_at w (.cells #[.slice A n c, .int .i64 l.p.seq, .int .i64 l.p.total, .int .i64 l.p.got, .slice B m d] 51) _ rfl
  have hb0 := nkeep w (.cells #[.slice A n c, .int .i64 l.p.seq, .int .i64 l.p.total, .int .i64 l.p.got, .slice B m d] 51)
  obtain ⟨e0, e1, e2, e3, e4⟩ := cells5 y0
  obtain ⟨M, hM⟩ : ∃ M, Lane.many l = M := ⟨_, rfl⟩
  rw [hM]
  have HM := hidT hM
  have HB0 := hidT hb0
  have HE := hidT (hE.below hb0)
  have HLEN := hidT hlen
  clear y0 hb0 hE hB hM hlen
  go_enter Try.func22, Try.ntmps22
  go_wp2
  go_loop [3, 4] (fun q i => ∃ j k : Nat, j ≤ n ∧ k ≤ j ∧ i = .int .i64 j ∧ q = .int .i64 k ∧ Hid (((l.es.take j).filter Lane.isMsg).length = k)) (fun _ i => n - (intOf i).toNat)
  case atStart => exact ⟨0, 0, Nat.zero_le _, Nat.le_refl _, rfl, rfl, hidT rfl⟩
  case round =>
    obtain ⟨j, k, hj, hkj, rfl, rfl, HK⟩ := hrel
    by_cases hjn : j < n
    · obtain ⟨b, o, x, BA, bn, bc, LA, ln, lc, rfl, hx, _, _, _, _, hcs⟩ := HE.out.told hjn
      obtain ⟨c0, c1, c2, c3, c4⟩ := hcs _ (Below.refl _ _)
      have x1 : (0 : Int) ≤ (j : Int) := by omega
      have x2 : (j : Int) < (n : Int) := by omega
      have HX := hidT hx
      clear hcs hx
      cases hp : Lane.isMsg x with
      | true =>
        have q : (x.k == 1) = true := by simpa [Lane.isMsg] using hp
        have HP := hidT hp
        clear hp
        go_wp2
        go_round
        case rel => exact ⟨j + 1, k + 1, by omega, by omega, by go_num, by go_num, hidT (by rw [many_step HX.out, HK.out, HP.out]; rfl)⟩
        case measure => simp [intOf]; omega
      | false =>
        have q : (x.k == 1) = false := by simpa [Lane.isMsg] using hp
        have HP := hidT hp
        clear hp
        go_wp2
        go_round
        case rel => exact ⟨j + 1, k, by omega, by omega, by go_num, rfl, hidT (by rw [many_step HX.out, HK.out, HP.out]; rfl)⟩
        case measure => simp [intOf]; omega
    · obtain rfl : n = j := by omega
      obtain rfl : k = M := by
        rw [← HM.out, ← HK.out]
        unfold Lane.many
        rw [List.take_of_length_le (by rw [HLEN.out]; exact Nat.le_refl _)]
      go_wp2
      go_ret
      exact ⟨rfl, HB0.out⟩
theorem rlast_any {S : Nat → Prop} (l : Lane.Ln) (A : Option Addr) (n c : Nat) (B : Option Addr) (m d : Nat) (w : World) (h : RdE S w A n c l.es) (k : Int) (hk : Lane.last l = k) : Calls Try.prog 61 #[.agg #[.slice A n c, .int .i64 l.p.seq, .int .i64 l.p.total, .int .i64 l.p.got, .slice B m d]] w (IntIs w k) := by
  have y0 := alloc_at w (.cells #[.slice A n c, .int .i64 l.p.seq, .int .i64 l.p.total, .int .i64 l.p.got, .slice B m d] 51) _ rfl
  have hb0 := nkeep w (.cells #[.slice A n c, .int .i64 l.p.seq, .int .i64 l.p.total, .int .i64 l.p.got, .slice B m d] 51)
  obtain ⟨e0, e1, e2, e3, e4⟩ := cells5 y0
  have HB0 := hidT hb0
  have hlen := h.size
  have hle := h.le
  clear y0
  by_cases hu : 0 < l.p.got
  · have q2 : decide (0 < l.p.got) = true := by simpa using hu
    obtain rfl : l.p.seq = k := by rw [← hk]; unfold Lane.last; rw [if_pos hu]
    clear hk hu hb0 h hlen
    go_enter Try.func61, Try.ntmps61
    go_wp2
    go_ret
    exact ⟨rfl, HB0.out⟩
  · have q2 : decide (0 < l.p.got) = false := by simpa using hu
    obtain rfl : Lane.top 0 l.es = k := by rw [← hk]; unfold Lane.last; rw [if_neg hu]
    clear hk hu
    by_cases hn : n = 0
    · have q1 : decide ((0 : Int) < (n : Int)) = false := by simp; omega
      have q1' : decide (0 < n) = false := by simp; omega
      have e : l.es = [] := List.eq_nil_of_length_eq_zero (by omega)
      have ht : Lane.top 0 l.es = 0 := by rw [e]; rfl
      rw [ht]
      clear h e ht hn hlen hb0
      go_enter Try.func61, Try.ntmps61
      go_wp2
      go_ret
      exact ⟨rfl, HB0.out⟩
    · have q1 : decide ((0 : Int) < (n : Int)) = true := by simp; omega
      have q1' : decide (0 < n) = true := by simp; omega
      obtain ⟨b, o, x, BA, bn, bc, LA, ln, lc, rfl, hx, _, _, _, _, hcs⟩ := h.told (i := n - 1) (by omega)
      rw [top_of hlen hx 0]
      obtain ⟨N, hN⟩ : ∃ N, n - 1 = N := ⟨_, rfl⟩
      have eN : (n : Int) - 1 = (N : Int) := by omega
      have x1 : (0 : Int) ≤ (N : Int) := by omega
      have x2 : (N : Int) < (n : Int) := by omega
      rw [hN] at hcs
      obtain ⟨c0, c1, c2, c3, c4⟩ := hcs _ hb0
      clear hcs hx h hlen hN hn hb0
      go_enter Try.func61, Try.ntmps61
      go_wp2
      go_ret
      exact ⟨rfl, HB0.out⟩
end Go.Proofs.Ytdchgnmkeefffaa
/- What the document's with comes to. -/
namespace Go.Proofs.Ytdchgnmkeefffaa
open Go.RowKit
set_option linter.unusedVariables false

abbrev Any : Nat → Prop := fun _ => True
def RLaneIs (w : World) (l : Lane.Ln) (e : Ending) (w' : World) : Prop := ∃ v, e = .returned v ∧ IsLane Any w' v l ∧ Below w.heap.size w w'
/-- The same, its lists in such blocks. -/
def RLaneT (w : World) (T : Nat → Prop) (l : Lane.Ln) (e : Ending) (w' : World) : Prop := ∃ v, e = .returned v ∧ IsLane T w' v l ∧ Below w.heap.size w w'
theorem row_ne {p q n c : Nat} (h : p ≠ q) : ∀ b o, (some ⟨q, 0, none⟩ : Option Addr) = some ⟨b, o, none⟩ → (Value.slice (some ⟨p, 0, none⟩) n c).ownBlock ≠ some b := by
  intro b o e e2
  injection e with e
  injection e with e
  have e3 : some p = some b := e2
  injection e3 with e3
  omega
theorem RdK.grown {k : Nat} {w w' : World} {A : Option Addr} {n c : Nat} {rs : List (Array Value)} {row : Option Nat} (h : RdK k w A n c rs) (hg : w.grownBy w' row) (hr : ∀ b o, A = some ⟨b, o, none⟩ → row ≠ some b) : RdK k w' A n c rs := by
  obtain ⟨h0, h1, h2, h3, h4, h5⟩ := h
  refine ⟨h0, h1, h2, h3, h4, fun h6 => ?_⟩
  obtain ⟨b, o, hA, hc⟩ := h5 h6
  exact ⟨b, o, hA, fun i x hx => hg.cell (hc i x hx) (fun e => hr b o hA e.symm)⟩
theorem RdK.but {k : Nat} {w w' : World} {A : Option Addr} {n c g : Nat} {rs : List (Array Value)} (h : RdK k w A n c rs) (hg : ∀ b o, A = some ⟨b, o, none⟩ → b ≠ g) (hb : But g w w') : RdK k w' A n c rs := by
  obtain ⟨h0, h1, h2, h3, h4, h5⟩ := h
  refine ⟨h0, h1, h2, h3, h4, fun h6 => ?_⟩
  obtain ⟨b, o, hA, hc⟩ := h5 h6
  exact ⟨b, o, hA, fun i x hx => hb.cell (hg b o hA) (hc i x hx)⟩
theorem nkeep_alloc {w w' : World} (hb : Below w.heap.size w w') (o : Obj) : Below w.heap.size w (w'.alloc o) := bthen hb (nkeep w' o)
theorem set5 {w : World} {g : Nat} {b0 b1 b2 b3 b4 : Value} {t : TypeId} (h : w.heap[g]? = some (.cells #[b0, b1, b2, b3, b4] t (0, 0))) (a0 a1 a2 a3 a4 : Value) :
    (((((w.setCell ⟨g, 0, none⟩ a0).setCell ⟨g, 1, none⟩ a1).setCell ⟨g, 2, none⟩ a2).setCell ⟨g, 3, none⟩ a3).setCell ⟨g, 4, none⟩ a4).heap[g]? = some (.cells #[a0, a1, a2, a3, a4] t (0, 0)) ∧ But g w (((((w.setCell ⟨g, 0, none⟩ a0).setCell ⟨g, 1, none⟩ a1).setCell ⟨g, 2, none⟩ a2).setCell ⟨g, 3, none⟩ a3).setCell ⟨g, 4, none⟩ a4) ∧
    (∀ base w0, Below base w0 w → base ≤ g → Below base w0 (((((w.setCell ⟨g, 0, none⟩ a0).setCell ⟨g, 1, none⟩ a1).setCell ⟨g, 2, none⟩ a2).setCell ⟨g, 3, none⟩ a3).setCell ⟨g, 4, none⟩ a4)) := by
  have s0 : (w.setCell ⟨g, 0, none⟩ a0).heap[g]? = some (.cells #[a0, b1, b2, b3, b4] t (0, 0)) := heap_setCell_same w g 0 _ t a0 h
  have s1 : ((w.setCell ⟨g, 0, none⟩ a0).setCell ⟨g, 1, none⟩ a1).heap[g]? = some (.cells #[a0, a1, b2, b3, b4] t (0, 0)) := heap_setCell_same _ g 1 _ t a1 s0
  have s2 : (((w.setCell ⟨g, 0, none⟩ a0).setCell ⟨g, 1, none⟩ a1).setCell ⟨g, 2, none⟩ a2).heap[g]? = some (.cells #[a0, a1, a2, b3, b4] t (0, 0)) := heap_setCell_same _ g 2 _ t a2 s1
  have s3 : ((((w.setCell ⟨g, 0, none⟩ a0).setCell ⟨g, 1, none⟩ a1).setCell ⟨g, 2, none⟩ a2).setCell ⟨g, 3, none⟩ a3).heap[g]? = some (.cells #[a0, a1, a2, a3, b4] t (0, 0)) := heap_setCell_same _ g 3 _ t a3 s2
  exact ⟨heap_setCell_same _ g 4 _ t a4 s3, ((((But.setCell w g 0 a0).trans (But.setCell _ g 1 a1)).trans (But.setCell _ g 2 a2)).trans (But.setCell _ g 3 a3)).trans (But.setCell _ g 4 a4),
    fun base w0 hb hg => ((((hb.setCell (p := ⟨g, 0, none⟩) hg a0).setCell (p := ⟨g, 1, none⟩) hg a1).setCell (p := ⟨g, 2, none⟩) hg a2).setCell (p := ⟨g, 3, none⟩) hg a3).setCell (p := ⟨g, 4, none⟩) hg a4⟩

set_option maxHeartbeats 8000000 in
theorem with_any {S S' T : Nat → Prop} (v u : Value) (l : Lane.Ln) (x : Lane.En) (w : World) (h : IsLane S w v l) (hx : IsEn S' w u x) (hn6 : l.es.length ≤ 65536) (hT1 : ∀ b, S b → T b) (hT2 : ∀ b, S' b → T b) (hT3 : ∀ b, w.heap.size ≤ b → T b) :
    Calls Try.prog 63 #[v, u] w (RLaneT w T ⟨l.es ++ [x], l.p⟩) := by
  obtain ⟨A, n, c, B, m, d, rfl, hE, hB, hWB⟩ := h
  obtain ⟨BA, bn, bc, LA, ln, lc, rfl, hb, hl, hwb, hwl⟩ := hx
  have HWB := hidT (hWB.mono hT1)
  have HT1 := hidT hT1
  have HT2 := hidT hT2
  have HT3 := hidT hT3
  clear hWB hT1 hT2 hT3
  have hen : IsEn S' w (.agg #[.int .i64 x.k, .int .i64 x.q, .slice BA bn bc, .slice LA ln lc, .bool x.h]) x := ⟨BA, bn, bc, LA, ln, lc, rfl, hb, hl, hwb, hwl⟩
  have hn65 : n ≤ 65536 := by rw [← hE.size]; exact hn6
  obtain ⟨rs, hK, hA, _⟩ := hE
  obtain ⟨t0, t1, t2, t4⟩ := three_alloc w (.cells #[.slice A n c, .int .i64 l.p.seq, .int .i64 l.p.total, .int .i64 l.p.got, .slice B m d] 51) (.cells #[.int .i64 x.k, .int .i64 x.q, .slice BA bn bc, .slice LA ln lc, .bool x.h] 59) (.cells lz 51)
  obtain ⟨W, hW⟩ : ∃ W, ((w.alloc (.cells #[.slice A n c, .int .i64 l.p.seq, .int .i64 l.p.total, .int .i64 l.p.got, .slice B m d] 51)).alloc (.cells #[.int .i64 x.k, .int .i64 x.q, .slice BA bn bc, .slice LA ln lc, .bool x.h] 59)).alloc (.cells lz 51) = W := ⟨_, rfl⟩
  have HSZ : Hid (W.heap.size = w.heap.size + 3) := by rw [← hW, size_alloc, size_alloc, size_alloc]; exact hidT rfl
  rw [hW] at t0 t1 t2 t4
  obtain ⟨g, hg⟩ : ∃ g, w.heap.size = g := ⟨_, rfl⟩
  have HG := hidT hg
  rw [hg] at t0 t1 t2
  have HW := hidT hW
  have T0 := hidT t0
  have T1 := hidT t1
  have T2 := hidT t2
  have T4 := hidT t4
  have HK := hidT hK
  have HA := hidT hA
  have HEN := hidT hen
  have HBB := hidT hB
  clear t0 t1 t2 t4 hW hK hA hen hB hb hl hwb hwl hn6
  go_enter Try.func63, Try.ntmps63
  go_wp2_with fail
  rw [HW.out]
  clear hg
  have D0 : Below W.heap.size W W.drew := (Below.refl _ _).drew
  have hg3 : g + 1 + 1 < W.heap.size := blk_lt T2.out
  have hg2 : g + 1 + 1 ≤ W.heap.size := by omega
  have cT00 : ∀ w', Below (g + 1 + 1) W w' → w'.cell? ⟨g, 0, none⟩ = some (.slice A n c) := fun w' hb => cell_at ((hb.block g (by omega)).trans T0.out) 0 rfl
  have cT01 : ∀ w', Below (g + 1 + 1) W w' → w'.cell? ⟨g, 1, none⟩ = some (.int .i64 l.p.seq) := fun w' hb => cell_at ((hb.block g (by omega)).trans T0.out) 1 rfl
  have cT02 : ∀ w', Below (g + 1 + 1) W w' → w'.cell? ⟨g, 2, none⟩ = some (.int .i64 l.p.total) := fun w' hb => cell_at ((hb.block g (by omega)).trans T0.out) 2 rfl
  have cT03 : ∀ w', Below (g + 1 + 1) W w' → w'.cell? ⟨g, 3, none⟩ = some (.int .i64 l.p.got) := fun w' hb => cell_at ((hb.block g (by omega)).trans T0.out) 3 rfl
  have cT04 : ∀ w', Below (g + 1 + 1) W w' → w'.cell? ⟨g, 4, none⟩ = some (.slice B m d) := fun w' hb => cell_at ((hb.block g (by omega)).trans T0.out) 4 rfl
  have cT10 : ∀ w', Below (g + 1 + 1) W w' → w'.cell? ⟨g + 1, 0, none⟩ = some (.int .i64 x.k) := fun w' hb => cell_at ((hb.block (g + 1) (by omega)).trans T1.out) 0 rfl
  have cT11 : ∀ w', Below (g + 1 + 1) W w' → w'.cell? ⟨g + 1, 1, none⟩ = some (.int .i64 x.q) := fun w' hb => cell_at ((hb.block (g + 1) (by omega)).trans T1.out) 1 rfl
  have cT12 : ∀ w', Below (g + 1 + 1) W w' → w'.cell? ⟨g + 1, 2, none⟩ = some (.slice BA bn bc) := fun w' hb => cell_at ((hb.block (g + 1) (by omega)).trans T1.out) 2 rfl
  have cT13 : ∀ w', Below (g + 1 + 1) W w' → w'.cell? ⟨g + 1, 3, none⟩ = some (.slice LA ln lc) := fun w' hb => cell_at ((hb.block (g + 1) (by omega)).trans T1.out) 3 rfl
  have cT14 : ∀ w', Below (g + 1 + 1) W w' → w'.cell? ⟨g + 1, 4, none⟩ = some (.bool x.h) := fun w' hb => cell_at ((hb.block (g + 1) (by omega)).trans T1.out) 4 rfl
  go_region_held_law (fun w' => Below (g + 1 + 1) W w')
    (first | exact D0.mono hg2 | exact hS1 | exact hb4.mono hg2 | exact hb3.mono hg2 | exact (nkeep_alloc hb3 _).mono hg2 | exact (nkeep_alloc D0 _).mono hg2 | exact (nkeep_alloc (nkeep_alloc D0 _) _).mono hg2)
    (first
      | (refine step_appK 5 (by omega) 11 rfl rfl (.tmp 8) (.tmp 10) 47 rfl W.heap.size 59 _ 72 infoE rfl (by omega) Try.underlying47 v3 (0 + n) ([] ++ rs) rfl (ho3.later (nkeep w3 (.cells #[.int .i64 x.k, .int .i64 x.q, .slice BA bn bc, .slice LA ln lc, .bool x.h] 59))) (some ⟨w3.heap.size, 0, none⟩) 1 1 [#[.int .i64 x.k, .int .i64 x.q, .slice BA bn bc, .slice LA ln lc, .bool x.h]] rfl (RdK.lit (k := 5) w3 59 (0, 0) #[.int .i64 x.k, .int .i64 x.q, .slice BA bn bc, .slice LA ln lc, .bool x.h] [#[.int .i64 x.k, .int .i64 x.q, .slice BA bn bc, .slice LA ln lc, .bool x.h]] (AllK.one rfl (by simp [Value.oneCell'])) (by simp [flat]) 1 rfl (by simp only [maxLen]; omega) w3.heap.size rfl) (by omega) (nkeep_alloc hb3 (.cells #[.int .i64 x.k, .int .i64 x.q, .slice BA bn bc, .slice LA ln lc, .bool x.h] 59)).size ?_
         intro v4 w4 ho4 hb4' hg4
         have hb4 : Below W.heap.size W w4 := (nkeep_alloc hb3 (.cells #[.int .i64 x.k, .int .i64 x.q, .slice BA bn bc, .slice LA ln lc, .bool x.h] 59)).trans hb4'
         rw [Nat.zero_add, List.nil_append] at ho4
         obtain ⟨A4, c4, rfl, hrd4⟩ := OwnK.rd ho4
         have y2 : w4.heap[g + 1 + 1]? = some (.cells lz 51 (0, 0)) := keepH T2.out hb4
         have fa0 := no_frozen y2 0
         have fa1 := no_frozen y2 1
         have fa2 := no_frozen y2 2
         have fa3 := no_frozen y2 3
         have fa4 := no_frozen y2 4
         obtain ⟨v0, v1, v2, v3', v4'⟩ := cells5 y2
         have hset := set5 y2 (.slice A4 (n + 1) c4) (.int .i64 l.p.seq) (.int .i64 l.p.total) (.int .i64 l.p.got) (.slice B m d)
         have hS1 : Below (g + 1 + 1) W (((((w4.setCell ⟨g + 1 + 1, 0, none⟩ (.slice A4 (n + 1) c4)).setCell ⟨g + 1 + 1, 1, none⟩ (.int .i64 l.p.seq)).setCell ⟨g + 1 + 1, 2, none⟩ (.int .i64 l.p.total)).setCell ⟨g + 1 + 1, 3, none⟩ (.int .i64 l.p.got)).setCell ⟨g + 1 + 1, 4, none⟩ (.slice B m d)) := hset.2.2 _ _ (hb4.mono hg2) (Nat.le_refl _))
      | (refine step_appK 5 (by omega) 11 rfl rfl (.tmp 8) (.tmp 10) 47 rfl W.heap.size 59 _ 72 infoE rfl (by omega) Try.underlying47 v3 (0 + n) ([] ++ rs) rfl ho3 (some ⟨W.heap.size + 1, 0, none⟩) 1 1 [#[.int .i64 x.k, .int .i64 x.q, .slice BA bn bc, .slice LA ln lc, .bool x.h]] rfl ((RdK.lit (k := 5) (W.drew.alloc (.cells #[] 59)) 59 (0, 0) #[.int .i64 x.k, .int .i64 x.q, .slice BA bn bc, .slice LA ln lc, .bool x.h] [#[.int .i64 x.k, .int .i64 x.q, .slice BA bn bc, .slice LA ln lc, .bool x.h]] (AllK.one rfl (by simp [Value.oneCell'])) (by simp [flat]) 1 rfl (by simp only [maxLen]; omega) (W.heap.size + 1) (size_alloc _ _)).grown hg3 (row_ne (by omega))) (by omega) (hb3).size ?_
         intro v4 w4 ho4 hb4' hg4
         have hb4 : Below W.heap.size W w4 := (hb3).trans hb4'
         rw [Nat.zero_add, List.nil_append] at ho4
         obtain ⟨A4, c4, rfl, hrd4⟩ := OwnK.rd ho4
         have y2 : w4.heap[g + 1 + 1]? = some (.cells lz 51 (0, 0)) := keepH T2.out hb4
         have fa0 := no_frozen y2 0
         have fa1 := no_frozen y2 1
         have fa2 := no_frozen y2 2
         have fa3 := no_frozen y2 3
         have fa4 := no_frozen y2 4
         obtain ⟨v0, v1, v2, v3', v4'⟩ := cells5 y2
         have hset := set5 y2 (.slice A4 (n + 1) c4) (.int .i64 l.p.seq) (.int .i64 l.p.total) (.int .i64 l.p.got) (.slice B m d)
         have hS1 : Below (g + 1 + 1) W (((((w4.setCell ⟨g + 1 + 1, 0, none⟩ (.slice A4 (n + 1) c4)).setCell ⟨g + 1 + 1, 1, none⟩ (.int .i64 l.p.seq)).setCell ⟨g + 1 + 1, 2, none⟩ (.int .i64 l.p.total)).setCell ⟨g + 1 + 1, 3, none⟩ (.int .i64 l.p.got)).setCell ⟨g + 1 + 1, 4, none⟩ (.slice B m d)) := hset.2.2 _ _ (hb4.mono hg2) (Nat.le_refl _))
      | (refine step_appK 5 (by omega) 11 rfl rfl (.tmp 8) (.tmp 10) 47 rfl W.heap.size 59 _ 72 infoE rfl (by omega) Try.underlying47 v3 (0 + n) ([] ++ rs) rfl ho3 (some ⟨W.heap.size, 0, none⟩) 1 1 [#[.int .i64 x.k, .int .i64 x.q, .slice BA bn bc, .slice LA ln lc, .bool x.h]] rfl (((RdK.lit (k := 5) W.drew 59 (0, 0) #[.int .i64 x.k, .int .i64 x.q, .slice BA bn bc, .slice LA ln lc, .bool x.h] [#[.int .i64 x.k, .int .i64 x.q, .slice BA bn bc, .slice LA ln lc, .bool x.h]] (AllK.one rfl (by simp [Value.oneCell'])) (by simp [flat]) 1 rfl (by simp only [maxLen]; omega) W.heap.size rfl).alloc (.cells #[] 59)).grown hg3 (row_ne (by omega))) (by omega) (hb3).size ?_
         intro v4 w4 ho4 hb4' hg4
         have hb4 : Below W.heap.size W w4 := (hb3).trans hb4'
         rw [Nat.zero_add, List.nil_append] at ho4
         obtain ⟨A4, c4, rfl, hrd4⟩ := OwnK.rd ho4
         have y2 : w4.heap[g + 1 + 1]? = some (.cells lz 51 (0, 0)) := keepH T2.out hb4
         have fa0 := no_frozen y2 0
         have fa1 := no_frozen y2 1
         have fa2 := no_frozen y2 2
         have fa3 := no_frozen y2 3
         have fa4 := no_frozen y2 4
         obtain ⟨v0, v1, v2, v3', v4'⟩ := cells5 y2
         have hset := set5 y2 (.slice A4 (n + 1) c4) (.int .i64 l.p.seq) (.int .i64 l.p.total) (.int .i64 l.p.got) (.slice B m d)
         have hS1 : Below (g + 1 + 1) W (((((w4.setCell ⟨g + 1 + 1, 0, none⟩ (.slice A4 (n + 1) c4)).setCell ⟨g + 1 + 1, 1, none⟩ (.int .i64 l.p.seq)).setCell ⟨g + 1 + 1, 2, none⟩ (.int .i64 l.p.total)).setCell ⟨g + 1 + 1, 3, none⟩ (.int .i64 l.p.got)).setCell ⟨g + 1 + 1, 4, none⟩ (.slice B m d)) := hset.2.2 _ _ (hb4.mono hg2) (Nat.le_refl _))
      | (refine step_appK 5 (by omega) 8 rfl rfl (.tmp 5) (.tmp 7) 47 rfl W.heap.size 59 _ 72 infoE rfl (by omega) Try.underlying47 (.slice (some ⟨W.heap.size, 0, none⟩) 0 0) 0 [] rfl (OwnK.made 5 W.drew W.heap.size (Nat.le_refl _) 59 W.heap.size rfl) A n c rs rfl (HK.out.below (bthen T4.out (nkeep_alloc D0 (.cells #[] 59)))) (by omega) ((nkeep_alloc D0 (.cells #[] 59))).size ?_
         intro v3 w3 ho3 hb3' hg3
         have hb3 : Below W.heap.size W w3 := (nkeep_alloc D0 (.cells #[] 59)).trans hb3')
      | (refine step_appK 5 (by omega) 8 rfl rfl (.tmp 5) (.tmp 7) 47 rfl W.heap.size 59 _ 72 infoE rfl (by omega) Try.underlying47 (.slice (some ⟨W.heap.size, 0, none⟩) 0 0) 0 [] rfl ((OwnK.made 5 W.drew W.heap.size (Nat.le_refl _) 59 W.heap.size rfl).later (nkeep _ (.cells #[.int .i64 x.k, .int .i64 x.q, .slice BA bn bc, .slice LA ln lc, .bool x.h] 59))) A n c rs rfl (HK.out.below (bthen T4.out (nkeep_alloc (nkeep_alloc D0 (.cells #[] 59)) (.cells #[.int .i64 x.k, .int .i64 x.q, .slice BA bn bc, .slice LA ln lc, .bool x.h] 59)))) (by omega) ((nkeep_alloc (nkeep_alloc D0 (.cells #[] 59)) (.cells #[.int .i64 x.k, .int .i64 x.q, .slice BA bn bc, .slice LA ln lc, .bool x.h] 59))).size ?_
         intro v3 w3 ho3 hb3' hg3
         have hb3 : Below W.heap.size W w3 := (nkeep_alloc (nkeep_alloc D0 (.cells #[] 59)) (.cells #[.int .i64 x.k, .int .i64 x.q, .slice BA bn bc, .slice LA ln lc, .bool x.h] 59)).trans hb3')
      | (refine step_appK 5 (by omega) 8 rfl rfl (.tmp 5) (.tmp 7) 47 rfl W.heap.size 59 _ 72 infoE rfl (by omega) Try.underlying47 (.slice (some ⟨W.heap.size + 1, 0, none⟩) 0 0) 0 [] rfl (OwnK.made 5 (W.drew.alloc (.cells #[.int .i64 x.k, .int .i64 x.q, .slice BA bn bc, .slice LA ln lc, .bool x.h] 59)) W.heap.size (by rw [size_alloc]; exact Nat.le_succ _) 59 (W.heap.size + 1) (size_alloc _ _)) A n c rs rfl (HK.out.below (bthen T4.out (nkeep_alloc (nkeep_alloc D0 (.cells #[.int .i64 x.k, .int .i64 x.q, .slice BA bn bc, .slice LA ln lc, .bool x.h] 59)) (.cells #[] 59)))) (by omega) ((nkeep_alloc (nkeep_alloc D0 (.cells #[.int .i64 x.k, .int .i64 x.q, .slice BA bn bc, .slice LA ln lc, .bool x.h] 59)) (.cells #[] 59))).size ?_
         intro v3 w3 ho3 hb3' hg3
         have hb3 : Below W.heap.size W w3 := (nkeep_alloc (nkeep_alloc D0 (.cells #[.int .i64 x.k, .int .i64 x.q, .slice BA bn bc, .slice LA ln lc, .bool x.h] 59)) (.cells #[] 59)).trans hb3')
      | fail)
  all_goals
    obtain ⟨hg7, hbx, hbel⟩ := hset
    have s0 := HG.out
    have bW : Below w.heap.size w (((((w4.setCell ⟨g + 1 + 1, 0, none⟩ (.slice A4 (n + 1) c4)).setCell ⟨g + 1 + 1, 1, none⟩ (.int .i64 l.p.seq)).setCell ⟨g + 1 + 1, 2, none⟩ (.int .i64 l.p.total)).setCell ⟨g + 1 + 1, 3, none⟩ (.int .i64 l.p.got)).setCell ⟨g + 1 + 1, 4, none⟩ (.slice B m d)) := T4.out.trans (hS1.mono (by omega))
    have rd13 := hrd4.but (fun b o e => by have := (ho4.addr b o e).1; omega) hbx
    have are13 := ((HA.out.mono HT1.out).below bW).app (AreE.one ((HEN.out.mono HT2.out).below bW))
    have hBB := HBB.out.below bW
    have hwA : Within T A4 (n + 1) := fun _ b o e => HT3.out b (by have := (ho4.addr b o e).1; have := HSZ.out; omega)
    clear hb3 hb3' hb4 hb4' hg3 hg4 ho3 ho4 hrd4 y2 fa0 fa1 fa2 fa3 fa4 v0 v1 v2 v3' v4' hS1
    obtain ⟨r0, r1, r2, r3, r4⟩ := cells5 hg7
    try go_wp2_with fail
    exact bodyPost_ret (v := .agg #[.slice A4 (n + 1) c4, .int .i64 l.p.seq, .int .i64 l.p.total, .int .i64 l.p.got, .slice B m d]) (by simp [results, Try.results63, go_sem, r0, r1, r2, r3, r4]) rfl
      ⟨_, rfl, ⟨A4, n + 1, c4, B, m, d, rfl, ⟨_, rd13, are13, hwA⟩, hBB, HWB.out⟩, bW⟩
end Go.Proofs.Ytdchgnmkeefffaa
/- What the document's Pop comes to. -/
namespace Go.Proofs.Ytdchgnmkeefffaa
open Go.RowKit
set_option linter.unusedVariables false

theorem AreE.cons {S : Nat → Prop} {w : World} {r : Array Value} {rs : List (Array Value)} {x : Lane.En} {xs : List Lane.En} : AreE S w (r :: rs) (x :: xs) ↔ IsEn S w (.agg r) x ∧ AreE S w rs xs := by
  constructor
  · intro h
    exact ⟨h.2 0 r x rfl rfl, by have := h.1; simpa using this, fun i q y h1 h2 => h.2 (i + 1) q y (by simpa using h1) (by simpa using h2)⟩
  · rintro ⟨h1, h2⟩
    have := (AreE.one h1).app h2
    simpa using this
theorem AreE.filt {S : Nat → Prop} {w : World} {rs : List (Array Value)} {xs : List Lane.En} (h : AreE S w rs xs) (f : Lane.En → Bool) : AreE S w (((rs.zip xs).filter fun z => f z.2).map Prod.fst) (xs.filter f) := by
  induction rs generalizing xs with
  | nil =>
    have : xs = [] := List.eq_nil_of_length_eq_zero (by have := h.1; simpa using this.symm)
    subst this
    exact AreE.nil_ _ _
  | cons r rs ih =>
    cases xs with
    | nil => have := h.1; simp at this
    | cons x xs =>
      obtain ⟨h1, h2⟩ := AreE.cons.1 h
      have := ih h2
      rw [List.zip_cons_cons, List.filter_cons, List.filter_cons]
      cases hf : f x with
      | true => rw [if_pos (by simp), if_pos rfl, List.map_cons]; exact AreE.cons.2 ⟨h1, this⟩
      | false => rw [if_neg (by simp), if_neg (by simp)]; exact this
theorem AreE.puts {S : Nat → Prop} {w : World} {rs : List (Array Value)} {xs : List Lane.En} (h : AreE S w rs xs) {re : Array Value} {e : Lane.En} (he : IsEn S w (.agg re) e) : AreE S w ((rs.zip xs).map fun z => if z.2.q = e.q then re else z.1) (xs.map (Lane.put e)) := by
  induction rs generalizing xs with
  | nil =>
    have : xs = [] := List.eq_nil_of_length_eq_zero (by have := h.1; simpa using this.symm)
    subst this
    exact AreE.nil_ _ _
  | cons r rs ih =>
    cases xs with
    | nil => have := h.1; simp at this
    | cons x xs =>
      obtain ⟨h1, h2⟩ := AreE.cons.1 h
      have := ih h2
      rw [List.zip_cons_cons, List.map_cons, List.map_cons]
      refine AreE.cons.2 ⟨?_, this⟩
      unfold Lane.put
      dsimp only
      by_cases hq : x.q = e.q
      · rw [if_pos hq, if_pos hq]; exact he
      · rw [if_neg hq, if_neg hq]; exact h1
theorem zip_at {α β : Type} {rs : List α} {xs : List β} {j : Nat} {r : α} {x : β} (h1 : rs[j]? = some r) (h2 : xs[j]? = some x) : (rs.zip xs)[j]? = some (r, x) := by
  rw [List.getElem?_zip_eq_some]; exact ⟨h1, h2⟩
theorem zip_take {α β : Type} {rs : List α} {xs : List β} {j : Nat} {z : α × β} (h : (rs.zip xs)[j]? = some z) : (rs.zip xs).take (j + 1) = (rs.zip xs).take j ++ [z] := by rw [List.take_add_one, h]; rfl

set_option maxHeartbeats 4000000 in
theorem rpop_any {S : Nat → Prop} (v : Value) (l : Lane.Ln) (s : Int) (w : World) (h : IsLane S w v l) (hn6 : l.es.length ≤ 65536) :
    Calls Try.prog 31 #[v, .int .i64 s] w (RLaneIs w (Lane.pop l s)) := by
  obtain ⟨A, n, c, B, m, d, rfl, hE, hB, _⟩ := h
  have hle := hE.le
  have hlen := hE.size
  obtain ⟨rs, hK, hA, _⟩ := hE
  obtain ⟨t0, t1, t4⟩ := two_alloc w (.cells #[.slice A n c, .int .i64 l.p.seq, .int .i64 l.p.total, .int .i64 l.p.got, .slice B m d] 51) (.cells lz 51)
  obtain ⟨W, hW⟩ : ∃ W, (w.alloc (.cells #[.slice A n c, .int .i64 l.p.seq, .int .i64 l.p.total, .int .i64 l.p.got, .slice B m d] 51)).alloc (.cells lz 51) = W := ⟨_, rfl⟩
  have HSZ : Hid (W.heap.size = w.heap.size + 2) := by rw [← hW, size_alloc, size_alloc]; exact hidT rfl
  rw [hW] at t0 t1 t4
  obtain ⟨g, hg⟩ : ∃ g, w.heap.size = g := ⟨_, rfl⟩
  have HG := hidT hg
  rw [hg] at t0 t1
  have HW := hidT hW
  have T0 := hidT t0
  have T1 := hidT t1
  have T4 := hidT t4
  have HK := hidT hK
  have HA := hidT hA
  have HBB := hidT hB
  have HLEN := hidT hlen
  have HN6 := hidT hn6
  clear t0 t1 t4 hW hK hA hB hlen hn6
  go_enter Try.func31, Try.ntmps31
  go_wp2
  rw [HW.out]
  clear hg
  go_loopw [5, 6] (fun q i wr => ∃ (j k : Nat) (A5 : Option Addr) (c5 : Nat) (rs' : List (Array Value)), j ≤ n ∧ k ≤ j ∧ i = .int .i64 j ∧ q = .slice A5 k c5 ∧ Hid (OwnK 5 wr W.heap.size 59 (.slice A5 k c5) k rs') ∧ Hid (rs' = (((rs.zip l.es).take j).filter fun z => decide (z.2.q ≠ s)).map Prod.fst) ∧ Hid (Below W.heap.size W wr)) (fun _ i _ => n - (intOf i).toNat)
  case atStart => exact ⟨0, 0, none, 0, [], Nat.zero_le _, Nat.le_refl _, rfl, rfl, hidT (OwnK.nil_ _ _ _ _), hidT rfl, hidT (Below.refl _ _)⟩
  case round =>
    obtain ⟨j, k, A5, c5, rs', hj, hkj, rfl, rfl, HO, HR, HB⟩ := hrel
    obtain ⟨e0, e1, e2, e3, e4⟩ := cells5 (keepH T0.out HB.out)
    have hbw := bthen T4.out HB.out
    by_cases hjn : j < n
    · obtain ⟨x, hx⟩ : ∃ x, l.es[j]? = some x := ⟨_, List.getElem?_eq_getElem (by have := HLEN.out; omega)⟩
      obtain ⟨r, hr⟩ : ∃ r, rs[j]? = some r := ⟨_, List.getElem?_eq_getElem (by rw [HA.out.1, HLEN.out]; exact hjn)⟩
      obtain ⟨BA, bn, bc, LA, ln, lc, ev, _, _, _, _⟩ := HA.out.2 j r x hr hx
      injection ev with ev
      subst ev
      obtain ⟨b, o, rfl⟩ := HK.out.addr (by omega)
      have hc : ∀ (i : Nat) (u : Value), (#[.int .i64 x.k, .int .i64 x.q, .slice BA bn bc, .slice LA ln lc, .bool x.h] : Array Value)[i]? = some u → wr.cell? ⟨b, o + j * 5 + i, none⟩ = some u := fun i u hh => (hbw.cell (World.block_lt_of_cell? w _ (HK.out.cell hr hh))).trans (HK.out.cell hr hh)
      have c0 := hc 0 _ rfl
      have c1 := hc 1 _ rfl
      have c2 := hc 2 _ rfl
      have c3 := hc 3 _ rfl
      have c4 := hc 4 _ rfl
      simp only [Nat.add_zero] at c0
      have hz := zip_take (zip_at hr hx)
      have x1 : (0 : Int) ≤ (j : Int) := by omega
      have x2 : (j : Int) < (n : Int) := by omega
      have HZ := hidT hz
      clear hc hx hr hz
      by_cases hq : x.q = s
      · have q1 : (x.q != s) = false := by simpa using hq
        have q1' : (x.q == s) = true := by simpa using hq
        have HR2 : Hid (rs' = (((rs.zip l.es).take (j + 1)).filter fun z => decide (z.2.q ≠ s)).map Prod.fst) := hidT (by rw [HZ.out, List.filter_append, List.filter_cons, if_neg (by simpa using hq), List.filter_nil, List.append_nil]; exact HR.out)
        clear hq hbw
        go_wp2
        exact ⟨⟨j + 1, k, A5, c5, rs', by omega, by omega, by go_num, rfl, HO, HR2, HB⟩, by simp [intOf]; omega⟩
      · have q1 : (x.q != s) = true := by simpa using hq
        have q1' : (x.q == s) = false := by simpa using hq
        have HR2 : Hid (rs' ++ [#[.int .i64 x.k, .int .i64 x.q, .slice BA bn bc, .slice LA ln lc, .bool x.h]] = (((rs.zip l.es).take (j + 1)).filter fun z => decide (z.2.q ≠ s)).map Prod.fst) := hidT (by rw [HZ.out, List.filter_append, List.filter_cons, if_pos (by simpa using hq), List.filter_nil, List.map_append, ← HR.out]; rfl)
        have HN2 := hidT (nkeep wr (.cells #[.int .i64 x.k, .int .i64 x.q, .slice BA bn bc, .slice LA ln lc, .bool x.h] 59))
        have HO2 := hidT (HO.out.later HN2.out)
        have HL2 := hidT (RdK.lit (k := 5) wr 59 (0, 0) #[.int .i64 x.k, .int .i64 x.q, .slice BA bn bc, .slice LA ln lc, .bool x.h] [#[.int .i64 x.k, .int .i64 x.q, .slice BA bn bc, .slice LA ln lc, .bool x.h]] (AllK.one rfl (by simp [Value.oneCell'])) (by simp [flat]) 1 rfl (by simp only [maxLen]; omega) wr.heap.size rfl)
        have HS2 : Hid (W.heap.size ≤ (wr.alloc (.cells #[.int .i64 x.k, .int .i64 x.q, .slice BA bn bc, .slice LA ln lc, .bool x.h] 59)).heap.size) := hidT (by have := HB.out.size; rw [size_alloc]; omega)
        have hk65 : k + 1 ≤ 16777216 := by have := HN6.out; have := HLEN.out; omega
        clear hq hbw
        go_wp2_with (
          at_builtin
          refine wpList_appK 5 (by omega) rfl (.tmp 22) (.tmp 28) 47 rfl W.heap.size 59 _ 72 infoE rfl (by omega) Try.underlying47 (.slice A5 k c5) k rs' rfl HO2.out (some ⟨wr.heap.size, 0, none⟩) 1 1 [#[.int .i64 x.k, .int .i64 x.q, .slice BA bn bc, .slice LA ln lc, .bool x.h]] rfl HL2.out (by omega) HS2.out ?_
          intro v1 w1 hown hb1 hg1
          obtain ⟨A6, c6, rfl, hrd6⟩ := OwnK.rd hown
          have HOW := hidT hown
          have HB1 := hidT ((bthen HB.out HN2.out).trans hb1)
          clear hown hrd6 hb1 hg1)
        exact ⟨⟨j + 1, k + 1, A6, c6, _, by omega, by omega, by go_num, rfl, HOW, HR2, HB1⟩, by simp [intOf]; omega⟩
    · obtain rfl : n = j := by omega
      have hall : (rs.zip l.es).take n = rs.zip l.es := List.take_of_length_le (by rw [List.length_zip, HA.out.1, HLEN.out]; omega)
      rw [hall] at HR
      have y1 := keepH T1.out HB.out
      go_wp2_with (
        refine wpList_stI rfl 51 _ _ rfl (g + 1) #[.slice A5 k c5, .int .i64 l.p.seq, .int .i64 l.p.total, .int .i64 l.p.got, .slice B m d] rfl rfl _ _ y1 sizeL rfl (by simp [Value.oneCell']) ?_
        intro w7 hg7 hbut hbel)
      obtain ⟨r0, r1, r2, r3, r4⟩ := cells5 hg7
      have hgg := HG.out
      have hsz := HSZ.out
      have bW : Below w.heap.size w w7 := hbel _ _ (bthen T4.out HB.out) (by omega)
      have hrd := (HO.out.but (by omega) hbut).same
      have hare := ((HA.out.mono (T := Any) (fun _ _ => trivial)).below bW).filt (fun y => decide (y.q ≠ s))
      rw [← HR.out] at hare
      exact bodyPost_ret (v := .agg #[.slice A5 k c5, .int .i64 l.p.seq, .int .i64 l.p.total, .int .i64 l.p.got, .slice B m d]) (by simp [results, Try.results31, go_sem, r0, r1, r2, r3, r4]) rfl
        ⟨_, rfl, ⟨A5, k, c5, B, m, d, rfl, ⟨_, hrd, hare, Within.any _ _⟩, HBB.out.below bW, Within.any _ _⟩, bW⟩
end Go.Proofs.Ytdchgnmkeefffaa
/- What the document's Set comes to. -/
namespace Go.Proofs.Ytdchgnmkeefffaa
open Go.RowKit
set_option linter.unusedVariables false

set_option maxHeartbeats 4000000 in
theorem rset_no {S S' : Nat → Prop} (v u : Value) (l : Lane.Ln) (e : Lane.En) (w : World) (h : IsLane S w v l) (he : IsEn S' w u e) (hm : Lane.may e = false) :
    Calls Try.prog 33 #[v, u] w (RLaneIs w l) := by
  obtain ⟨A, n, c, B, m, d, rfl, hE, hB, _⟩ := h
  obtain ⟨BE, be, ce, LE, le, ke, rfl, hb, hl, hwb, hwl⟩ := he
  have hen : IsEn S' w (.agg #[.int .i64 e.k, .int .i64 e.q, .slice BE be ce, .slice LE le ke, .bool e.h]) e := ⟨BE, be, ce, LE, le, ke, rfl, hb, hl, hwb, hwl⟩
  have hle := hE.le
  have hlen := hE.size
  obtain ⟨rs, hK, hA, _⟩ := hE
  obtain ⟨t0, t1, t2, t4⟩ := three_alloc w (.cells #[.slice A n c, .int .i64 l.p.seq, .int .i64 l.p.total, .int .i64 l.p.got, .slice B m d] 51) (.cells #[.int .i64 e.k, .int .i64 e.q, .slice BE be ce, .slice LE le ke, .bool e.h] 59) (.cells lz 51)
  obtain ⟨W, hW⟩ : ∃ W, ((w.alloc (.cells #[.slice A n c, .int .i64 l.p.seq, .int .i64 l.p.total, .int .i64 l.p.got, .slice B m d] 51)).alloc (.cells #[.int .i64 e.k, .int .i64 e.q, .slice BE be ce, .slice LE le ke, .bool e.h] 59)).alloc (.cells lz 51) = W := ⟨_, rfl⟩
  have HSZ : Hid (W.heap.size = w.heap.size + 3) := by rw [← hW, size_alloc, size_alloc, size_alloc]; exact hidT rfl
  rw [hW] at t0 t1 t2 t4
  obtain ⟨g, hg⟩ : ∃ g, w.heap.size = g := ⟨_, rfl⟩
  have HG := hidT hg
  rw [hg] at t0 t1 t2
  have HW := hidT hW
  have T0 := hidT t0
  have T1 := hidT t1
  have T2 := hidT t2
  have T4 := hidT t4
  have HK := hidT hK
  have HA := hidT hA
  have HBB := hidT hB
  have HEN := hidT hen
  have HLEN := hidT hlen
  obtain ⟨f0, f1, f2, f3, f4⟩ := cells5 t1
  clear t0 t1 t2 t4 hW hK hA hB hlen hen hb hl hwb hwl
  have hmay := rlmay_any _ e W (HEN.out.below T4.out) false hm
  clear hm
  go_enter Try.func33, Try.ntmps33
  rw [← HW.out] at f0 f1 f2 f3 f4
  go_wp2_with fail
  rw [HW.out]
  clear hg f0 f1 f2 f3 f4
  with_reducible refine hmay.mono ?_
  rintro e' w5 ⟨rfl, hb5⟩
  obtain ⟨e0, e1, e2, e3, e4⟩ := cells5 (keepH T0.out hb5)
  have y2 := keepH T2.out hb5
  have HB5 := hidT (bthen T4.out hb5)
  clear hb5
  go_wp2_with (
    refine wpList_stI rfl 51 _ _ rfl (g + 1 + 1) #[.slice A n c, .int .i64 l.p.seq, .int .i64 l.p.total, .int .i64 l.p.got, .slice B m d] rfl rfl _ _ y2 sizeL rfl (by simp [Value.oneCell']) ?_
    intro w7 hg7 hbut hbel)
  obtain ⟨r0, r1, r2, r3, r4⟩ := cells5 hg7
  have hgg := HG.out
  have bW : Below w.heap.size w w7 := hbel _ _ HB5.out (by omega)
  exact bodyPost_ret (v := .agg #[.slice A n c, .int .i64 l.p.seq, .int .i64 l.p.total, .int .i64 l.p.got, .slice B m d]) (by simp [results, Try.results33, go_sem, r0, r1, r2, r3, r4]) rfl
    ⟨_, rfl, ⟨A, n, c, B, m, d, rfl, ⟨_, HK.out.below bW, (HA.out.mono (T := Any) (fun _ _ => trivial)).below bW, Within.any _ _⟩, HBB.out.below bW, Within.any _ _⟩, bW⟩
set_option maxHeartbeats 4000000 in
theorem rset_yes {S S' : Nat → Prop} (v u : Value) (l : Lane.Ln) (e : Lane.En) (w : World) (h : IsLane S w v l) (he : IsEn S' w u e) (hm : Lane.may e = true) (hn6 : l.es.length ≤ 65536) :
    Calls Try.prog 33 #[v, u] w (RLaneIs w ⟨l.es.map (Lane.put e), l.p⟩) := by
  obtain ⟨A, n, c, B, m, d, rfl, hE, hB, _⟩ := h
  obtain ⟨BE, be, ce, LE, le, ke, rfl, hb, hl, hwb, hwl⟩ := he
  have hen : IsEn S' w (.agg #[.int .i64 e.k, .int .i64 e.q, .slice BE be ce, .slice LE le ke, .bool e.h]) e := ⟨BE, be, ce, LE, le, ke, rfl, hb, hl, hwb, hwl⟩
  have hle := hE.le
  have hlen := hE.size
  obtain ⟨rs, hK, hA, _⟩ := hE
  obtain ⟨t0, t1, t2, t4⟩ := three_alloc w (.cells #[.slice A n c, .int .i64 l.p.seq, .int .i64 l.p.total, .int .i64 l.p.got, .slice B m d] 51) (.cells #[.int .i64 e.k, .int .i64 e.q, .slice BE be ce, .slice LE le ke, .bool e.h] 59) (.cells lz 51)
  obtain ⟨W, hW⟩ : ∃ W, ((w.alloc (.cells #[.slice A n c, .int .i64 l.p.seq, .int .i64 l.p.total, .int .i64 l.p.got, .slice B m d] 51)).alloc (.cells #[.int .i64 e.k, .int .i64 e.q, .slice BE be ce, .slice LE le ke, .bool e.h] 59)).alloc (.cells lz 51) = W := ⟨_, rfl⟩
  have HSZ : Hid (W.heap.size = w.heap.size + 3) := by rw [← hW, size_alloc, size_alloc, size_alloc]; exact hidT rfl
  rw [hW] at t0 t1 t2 t4
  obtain ⟨g, hg⟩ : ∃ g, w.heap.size = g := ⟨_, rfl⟩
  have HG := hidT hg
  rw [hg] at t0 t1 t2
  have HW := hidT hW
  have T0 := hidT t0
  have T1 := hidT t1
  have T2 := hidT t2
  have T4 := hidT t4
  have HK := hidT hK
  have HA := hidT hA
  have HBB := hidT hB
  have HEN := hidT hen
  have HLEN := hidT hlen
  obtain ⟨f0, f1, f2, f3, f4⟩ := cells5 t1
  clear t0 t1 t2 t4 hW hK hA hB hlen hen hb hl hwb hwl
  have hmay := rlmay_any _ e W (HEN.out.below T4.out) true hm
  have HN6 := hidT hn6
  clear hm hn6
  go_enter Try.func33, Try.ntmps33
  rw [← HW.out] at f0 f1 f2 f3 f4
  go_wp2_with fail
  rw [HW.out]
  clear hg f0 f1 f2 f3 f4
  with_reducible refine hmay.mono ?_
  rintro e' w5 ⟨rfl, hb5⟩
  have HB5 := hidT hb5
  clear hb5 hmay
  go_wp2
  go_loopw [6, 7] (fun q i wr => ∃ (j : Nat) (A5 : Option Addr) (c5 : Nat) (rs' : List (Array Value)), j ≤ n ∧ i = .int .i64 j ∧ q = .slice A5 j c5 ∧ Hid (OwnK 5 wr W.heap.size 59 (.slice A5 j c5) j rs') ∧ Hid (rs' = ((rs.zip l.es).take j).map fun z => if z.2.q = e.q then #[.int .i64 e.k, .int .i64 e.q, .slice BE be ce, .slice LE le ke, .bool e.h] else z.1) ∧ Hid (Below W.heap.size W wr)) (fun _ i _ => n - (intOf i).toNat)
  case atStart => exact ⟨0, none, 0, [], Nat.zero_le _, rfl, rfl, hidT (OwnK.nil_ _ _ _ _), hidT rfl, HB5⟩
  case round =>
    obtain ⟨k, A5, c5, rs', hj, rfl, rfl, HO, HR, HB⟩ := hrel
    obtain ⟨e0, e1, e2, e3, e4⟩ := cells5 (keepH T0.out HB.out)
    obtain ⟨f0, f1, f2, f3, f4⟩ := cells5 (keepH T1.out HB.out)
    have hbw := bthen T4.out HB.out
    by_cases hjn : k < n
    · obtain ⟨x, hx⟩ : ∃ x, l.es[k]? = some x := ⟨_, List.getElem?_eq_getElem (by have := HLEN.out; omega)⟩
      obtain ⟨r, hr⟩ : ∃ r, rs[k]? = some r := ⟨_, List.getElem?_eq_getElem (by rw [HA.out.1, HLEN.out]; exact hjn)⟩
      obtain ⟨BA, bn, bc, LA, ln, lc, ev, _, _, _, _⟩ := HA.out.2 k r x hr hx
      injection ev with ev
      subst ev
      obtain ⟨b, o, rfl⟩ := HK.out.addr (by omega)
      have hc : ∀ (i : Nat) (u : Value), (#[.int .i64 x.k, .int .i64 x.q, .slice BA bn bc, .slice LA ln lc, .bool x.h] : Array Value)[i]? = some u → ∀ w', Below w.heap.size w w' → w'.cell? ⟨b, o + k * 5 + i, none⟩ = some u := fun i u hh w' hb' => (hb'.cell (World.block_lt_of_cell? w _ (HK.out.cell hr hh))).trans (HK.out.cell hr hh)
      have hz := zip_take (zip_at hr hx)
      have x1 : (0 : Int) ≤ (k : Int) := by omega
      have x2 : (k : Int) < (n : Int) := by omega
      have HZ := hidT hz
      have HC := hidT hc
      have HBW := hidT hbw
      have NE := Later.ne wr
      have k1 : ∀ m' : Later wr, m'.w.cell? ⟨b, o + k * 5 + 1, none⟩ = some (.int .i64 x.q) := fun m' => HC.out 1 _ rfl m'.w (bthen HBW.out m'.h)
      have k2 := Later.cell e0
      have k3 := Later.cell f1
      clear hc hx hr hz hbw
      by_cases hq : x.q = e.q
      · have q1 : (x.q == e.q) = true := by simpa using hq
        have HR2 : Hid (rs' ++ [#[.int .i64 e.k, .int .i64 e.q, .slice BE be ce, .slice LE le ke, .bool e.h]] = ((rs.zip l.es).take (k + 1)).map fun z => if z.2.q = e.q then #[.int .i64 e.k, .int .i64 e.q, .slice BE be ce, .slice LE le ke, .bool e.h] else z.1) := hidT (by rw [HZ.out, List.map_append, ← HR.out, List.map_cons]; dsimp only; rw [if_pos hq]; rfl)
        clear hq
        go_wp2_with fail
        refine wp_later (by kernel_rfl) (by kernel_rfl) ?_
        repeat (go_big_quiet_step (fail))
        refine wpQuiet_nil ?_
        intro w9 hw9
        obtain ⟨⟨_, hb9⟩, rfl⟩ := hw9
        have HB9 := hidT (bthen HB.out hb9)
        have HOO := hidT (HO.out.later hb9)
        obtain ⟨e0, e1, e2, e3, e4⟩ := cells5 (keepH T0.out HB9.out)
        obtain ⟨f0, f1, f2, f3, f4⟩ := cells5 (keepH T1.out HB9.out)
        have HN2 := hidT (nkeep w9 (.cells #[.int .i64 e.k, .int .i64 e.q, .slice BE be ce, .slice LE le ke, .bool e.h] 59))
        have HO2 := hidT (HOO.out.later HN2.out)
        have HL2 := hidT (RdK.lit (k := 5) w9 59 (0, 0) #[.int .i64 e.k, .int .i64 e.q, .slice BE be ce, .slice LE le ke, .bool e.h] [#[.int .i64 e.k, .int .i64 e.q, .slice BE be ce, .slice LE le ke, .bool e.h]] (AllK.one rfl (by simp [Value.oneCell'])) (by simp [flat]) 1 rfl (by simp only [maxLen]; omega) w9.heap.size rfl)
        have HS2 : Hid (W.heap.size ≤ (w9.alloc (.cells #[.int .i64 e.k, .int .i64 e.q, .slice BE be ce, .slice LE le ke, .bool e.h] 59)).heap.size) := hidT (by have := HB9.out.size; rw [size_alloc]; omega)
        have hk65 : k + 1 ≤ 16777216 := by have := HN6.out; have := HLEN.out; omega
        clear hb9 k1 k2 k3 NE
        go_wp2_with (
          at_builtin
          refine wpList_appK 5 (by omega) rfl (.tmp 29) (.tmp 31) 47 rfl W.heap.size 59 _ 72 infoE rfl (by omega) Try.underlying47 (.slice A5 k c5) k rs' rfl HO2.out (some ⟨w9.heap.size, 0, none⟩) 1 1 [#[.int .i64 e.k, .int .i64 e.q, .slice BE be ce, .slice LE le ke, .bool e.h]] rfl HL2.out (by omega) HS2.out ?_
          intro v1 w1 hown hb1 hg1
          obtain ⟨A6, c6, rfl, hrd6⟩ := OwnK.rd hown
          have HOW := hidT hown
          have HB1 := hidT ((bthen HB9.out HN2.out).trans hb1)
          clear hown hrd6 hb1 hg1)
        exact ⟨⟨k + 1, A6, c6, _, by omega, by go_num, rfl, HOW, HR2, HB1⟩, by simp [intOf]; omega⟩
      · have q1 : (x.q == e.q) = false := by simpa using hq
        have HR2 : Hid (rs' ++ [#[.int .i64 x.k, .int .i64 x.q, .slice BA bn bc, .slice LA ln lc, .bool x.h]] = ((rs.zip l.es).take (k + 1)).map fun z => if z.2.q = e.q then #[.int .i64 e.k, .int .i64 e.q, .slice BE be ce, .slice LE le ke, .bool e.h] else z.1) := hidT (by rw [HZ.out, List.map_append, ← HR.out, List.map_cons]; dsimp only; rw [if_neg hq]; rfl)
        clear hq
        go_wp2_with fail
        refine wp_later (by kernel_rfl) (by kernel_rfl) ?_
        repeat (go_big_quiet_step (fail))
        refine wpQuiet_nil ?_
        intro w9 hw9
        obtain ⟨⟨_, hb9⟩, rfl⟩ := hw9
        have HB9 := hidT (bthen HB.out hb9)
        have HOO := hidT (HO.out.later hb9)
        obtain ⟨e0, e1, e2, e3, e4⟩ := cells5 (keepH T0.out HB9.out)
        have hbw9 := bthen T4.out HB9.out
        have c0 := HC.out 0 _ rfl w9 hbw9
        have c1 := HC.out 1 _ rfl w9 hbw9
        have c2 := HC.out 2 _ rfl w9 hbw9
        have c3 := HC.out 3 _ rfl w9 hbw9
        have c4 := HC.out 4 _ rfl w9 hbw9
        simp only [Nat.add_zero] at c0
        have HN2 := hidT (nkeep w9 (.cells #[.int .i64 x.k, .int .i64 x.q, .slice BA bn bc, .slice LA ln lc, .bool x.h] 59))
        have HO2 := hidT (HOO.out.later HN2.out)
        have HL2 := hidT (RdK.lit (k := 5) w9 59 (0, 0) #[.int .i64 x.k, .int .i64 x.q, .slice BA bn bc, .slice LA ln lc, .bool x.h] [#[.int .i64 x.k, .int .i64 x.q, .slice BA bn bc, .slice LA ln lc, .bool x.h]] (AllK.one rfl (by simp [Value.oneCell'])) (by simp [flat]) 1 rfl (by simp only [maxLen]; omega) w9.heap.size rfl)
        have HS2 : Hid (W.heap.size ≤ (w9.alloc (.cells #[.int .i64 x.k, .int .i64 x.q, .slice BA bn bc, .slice LA ln lc, .bool x.h] 59)).heap.size) := hidT (by have := HB9.out.size; rw [size_alloc]; omega)
        have hk65 : k + 1 ≤ 16777216 := by have := HN6.out; have := HLEN.out; omega
        clear hb9 k1 k2 k3 NE hbw9
        go_wp2_with (
          at_builtin
          refine wpList_appK 5 (by omega) rfl (.tmp 33) (.tmp 39) 47 rfl W.heap.size 59 _ 72 infoE rfl (by omega) Try.underlying47 (.slice A5 k c5) k rs' rfl HO2.out (some ⟨w9.heap.size, 0, none⟩) 1 1 [#[.int .i64 x.k, .int .i64 x.q, .slice BA bn bc, .slice LA ln lc, .bool x.h]] rfl HL2.out (by omega) HS2.out ?_
          intro v1 w1 hown hb1 hg1
          obtain ⟨A6, c6, rfl, hrd6⟩ := OwnK.rd hown
          have HOW := hidT hown
          have HB1 := hidT ((bthen HB9.out HN2.out).trans hb1)
          clear hown hrd6 hb1 hg1)
        exact ⟨⟨k + 1, A6, c6, _, by omega, by go_num, rfl, HOW, HR2, HB1⟩, by simp [intOf]; omega⟩
    · obtain rfl : n = k := by omega
      have hall : (rs.zip l.es).take n = rs.zip l.es := List.take_of_length_le (by rw [List.length_zip, HA.out.1, HLEN.out]; omega)
      rw [hall] at HR
      have y2 := keepH T2.out HB.out
      go_wp2_with (
        refine wpList_stI rfl 51 _ _ rfl (g + 1 + 1) #[.slice A5 n c5, .int .i64 l.p.seq, .int .i64 l.p.total, .int .i64 l.p.got, .slice B m d] rfl rfl _ _ y2 sizeL rfl (by simp [Value.oneCell']) ?_
        intro w7 hg7 hbut hbel)
      obtain ⟨r0, r1, r2, r3, r4⟩ := cells5 hg7
      have hgg := HG.out
      have hsz := HSZ.out
      have bW : Below w.heap.size w w7 := hbel _ _ (bthen T4.out HB.out) (by omega)
      have hrd := (HO.out.but (by omega) hbut).same
      have hare := ((HA.out.mono (T := Any) (fun _ _ => trivial)).below bW).puts ((HEN.out.mono (T := Any) (fun _ _ => trivial)).below bW)
      rw [← HR.out] at hare
      exact bodyPost_ret (v := .agg #[.slice A5 n c5, .int .i64 l.p.seq, .int .i64 l.p.total, .int .i64 l.p.got, .slice B m d]) (by simp [results, Try.results33, go_sem, r0, r1, r2, r3, r4]) rfl
        ⟨_, rfl, ⟨A5, n, c5, B, m, d, rfl, ⟨_, hrd, hare, Within.any _ _⟩, HBB.out.below bW, Within.any _ _⟩, bW⟩
theorem rset_any {S S' : Nat → Prop} (v u : Value) (l : Lane.Ln) (e : Lane.En) (w : World) (h : IsLane S w v l) (he : IsEn S' w u e) (hn6 : l.es.length ≤ 65536) :
    Calls Try.prog 33 #[v, u] w (RLaneIs w (Lane.set l e)) := by
  cases hm : Lane.may e with
  | false =>
    have e1 : Lane.set l e = l := by unfold Lane.set; rw [if_neg (by simp [hm])]
    rw [e1]; exact rset_no v u l e w h he hm
  | true =>
    have e1 : Lane.set l e = ⟨l.es.map (Lane.put e), l.p⟩ := by unfold Lane.set; rw [if_pos hm]
    rw [e1]; exact rset_yes v u l e w h he hm hn6
end Go.Proofs.Ytdchgnmkeefffaa
