/- What the document's First, Message and Control come to. -/
import Derived.Test.YtmlmkkfieeaejaaLn2
set_option maxRecDepth 100000
namespace Go.Proofs.Ytmlmkkfieeaejaa
open Go.RowKit
set_option linter.unusedVariables false

/-- An entry that is a lane's, or none, and whether there is one. -/
def GetR (S : Nat → Prop) (w : World) (o : Option Lane.En) (e : Ending) (w' : World) : Prop := ∃ v, e = .returned (.tuple #[v, .bool o.isSome]) ∧ IsEn S w' v (o.getD Lane.En.zero) ∧ Below w.heap.size w w'
set_option maxHeartbeats 2000000 in
theorem rfirst_any {S : Nat → Prop} (v : Value) (l : Lane.Ln) (w : World) (h : IsLane S w v l) : Calls Try.prog 16 #[v] w (GetR S w (Lane.first l)) := by
  obtain ⟨A, n, c, B, m, d, rfl, hE, hB, hWI⟩ := h
  have hle := hE.le
  have hlen := hE.size
  obtain ⟨t0, t1, hb⟩ := two_alloc w (.cells #[.slice A n c, .int .i64 l.p.seq, .int .i64 l.p.total, .int .i64 l.p.got, .slice B m d] 27) (.cells ez 33)
  obtain ⟨W, hWW⟩ : ∃ W, (w.alloc (.cells #[.slice A n c, .int .i64 l.p.seq, .int .i64 l.p.total, .int .i64 l.p.got, .slice B m d] 27)).alloc (.cells ez 33) = W := ⟨_, rfl⟩
  have HS : Hid (W.heap.size = w.heap.size + 2) := by rw [← hWW, size_alloc, size_alloc]; exact hidT rfl
  rw [hWW] at t0 t1 hb
  obtain ⟨g, hg⟩ : ∃ g, w.heap.size = g := ⟨_, rfl⟩
  rw [hg] at t0 t1
  have HG := hidT hg
  have HW := hidT hWW
  have T0 := hidT t0
  have T1 := hidT t1
  have HB := hidT hb
  have HE := hidT hE
  have HLEN := hidT hlen
  obtain ⟨e0, e1, e2, e3, e4⟩ := cells5 t0
  clear t0 t1 hb hB hWI hWW hE hlen
  by_cases hn : n = 0
  · have q : ((n : Int) == 0) = true := by simp; omega
    have hf : Lane.first l = none := by unfold Lane.first; rw [List.eq_nil_of_length_eq_zero (show l.es.length = 0 by have := HLEN.out; omega)]; rfl
    rw [hf]
    rw [← HW.out] at e0 e1 e2 e3 e4
    have t1 := T1.out
    rw [← HW.out] at t1
    have hbb := HB.out
    rw [← HW.out] at hbb
    have HBB := hidT hbb
    clear hf hbb hn
    go_enter Try.func16, Try.ntmps16
    go_wp2_with (
      refine wpList_stI rfl 33 _ _ rfl (g + 1) ez rfl rfl _ _ t1 sizeE rfl (by kernel_rfl) ?_
      intro w7 hg7 hbut hbel)
    obtain ⟨r0, r1, r2, r3, r4⟩ := cells5 hg7
    have hgg := HG.out
    exact bodyPost_ret (v := .tuple #[.agg ez, .bool false]) (by simp [results, Try.results16, go_sem, r0, r1, r2, r3, r4]) rfl
      (⟨_, rfl, IsEn.zero _ _, hbel _ _ HBB.out (by omega)⟩)
  · have q : ((n : Int) == 0) = false := by simp; omega
    have q' : (n == 0) = false := by simpa using hn
    obtain ⟨b, o, x, BA, bn, bc, LA, ln, lc, rfl, hx, hrb, hrl, hwb, hwl, hcs⟩ := HE.out.told (i := 0) (by omega)
    have hf : Lane.first l = some x := by unfold Lane.first; rw [List.head?_eq_getElem?]; exact hx
    rw [hf]
    obtain ⟨c0, c1, c2, c3, c4⟩ := hcs W HB.out
    simp only [Nat.zero_mul, Nat.add_zero] at c0 c1 c2 c3 c4
    rw [← HW.out] at c0 c1 c2 c3 c4 e0 e1 e2 e3 e4
    have hi : IsEn S w (.agg #[.int .i64 x.k, .int .i64 x.q, .slice BA bn bc, .slice LA ln lc, .bool x.h]) x := ⟨BA, bn, bc, LA, ln, lc, rfl, hrb, hrl, hwb, hwl⟩
    have HI := hidT hi
    have x2 : (0 : Int) < (n : Int) := by omega
    have t1 := T1.out
    rw [← HW.out] at t1
    have hbb := HB.out
    rw [← HW.out] at hbb
    have HBB := hidT hbb
    clear hf hbb hn hcs hi hrb hrl hwb hwl hx
    go_enter Try.func16, Try.ntmps16
    go_wp2_with (
      refine wpList_stI rfl 33 _ _ rfl (g + 1) #[.int .i64 x.k, .int .i64 x.q, .slice BA bn bc, .slice LA ln lc, .bool x.h] rfl rfl _ _ t1 sizeE rfl (by simp [Value.oneCell']) ?_
      intro w7 hg7 hbut hbel)
    obtain ⟨r0, r1, r2, r3, r4⟩ := cells5 hg7
    have hgg := HG.out
    exact bodyPost_ret (v := .tuple #[.agg #[.int .i64 x.k, .int .i64 x.q, .slice BA bn bc, .slice LA ln lc, .bool x.h], .bool true]) (by simp [results, Try.results16, go_sem, r0, r1, r2, r3, r4]) rfl
      (⟨_, rfl, HI.out.below (hbel _ _ HBB.out (by omega)), hbel _ _ HBB.out (by omega)⟩)

set_option maxHeartbeats 2000000 in
theorem rmessage_any {S : Nat → Prop} (v : Value) (l : Lane.Ln) (w : World) (h : IsLane S w v l) : Calls Try.prog 18 #[v] w (GetR S w (Lane.message l)) := by
  obtain ⟨A, n, c, B, m, d, rfl, hE, hB, hWI⟩ := h
  have hle := hE.le
  have hlen := hE.size
  obtain ⟨t0, t1, hb⟩ := two_alloc w (.cells #[.slice A n c, .int .i64 l.p.seq, .int .i64 l.p.total, .int .i64 l.p.got, .slice B m d] 27) (.cells ez 33)
  obtain ⟨W, hWW⟩ : ∃ W, (w.alloc (.cells #[.slice A n c, .int .i64 l.p.seq, .int .i64 l.p.total, .int .i64 l.p.got, .slice B m d] 27)).alloc (.cells ez 33) = W := ⟨_, rfl⟩
  have HS : Hid (W.heap.size = w.heap.size + 2) := by rw [← hWW, size_alloc, size_alloc]; exact hidT rfl
  rw [hWW] at t0 t1 hb
  obtain ⟨g, hg⟩ : ∃ g, w.heap.size = g := ⟨_, rfl⟩
  rw [hg] at t0 t1
  have HG := hidT hg
  have HW := hidT hWW
  have T0 := hidT t0
  have T1 := hidT t1
  have HB := hidT hb
  have HE := hidT hE
  have HLEN := hidT hlen
  obtain ⟨e0, e1, e2, e3, e4⟩ := cells5 t0
  clear t0 t1 hb hB hWI hWW hE hlen
  obtain ⟨o, ho⟩ : ∃ o, Lane.message l = o := ⟨_, rfl⟩
  rw [ho]
  have he : o = l.es[l.es.findIdx Lane.isMsg]? := by rw [← ho]; exact find_idx _ _
  have HO := hidT he
  clear ho he
  rw [← HW.out] at e0 e1 e2 e3 e4
  go_enter Try.func18, Try.ntmps18
  go_wp2
  rw [HW.out] at e0 e1 e2 e3 e4 ⊢
  clear hg
  go_loop [4] (fun i => ∃ j : Nat, j ≤ n ∧ i = .int .i64 j ∧ Hid (∀ i y, i < j → l.es[i]? = some y → Lane.isMsg y = false)) (fun i => n - (intOf i).toNat)
  case atStart => exact ⟨0, Nat.zero_le _, rfl, hidT (fun i y hi => absurd hi (by omega))⟩
  case round =>
    obtain ⟨j, hj, rfl, HN⟩ := hrel
    by_cases hjn : j < n
    · obtain ⟨b, o', x, BA, bn, bc, LA, ln, lc, rfl, hx, hrb, hrl, hwb, hwl, hcs⟩ := HE.out.told hjn
      obtain ⟨c0, c1, c2, c3, c4⟩ := hcs W HB.out
      have hi : IsEn S w (.agg #[.int .i64 x.k, .int .i64 x.q, .slice BA bn bc, .slice LA ln lc, .bool x.h]) x := ⟨BA, bn, bc, LA, ln, lc, rfl, hrb, hrl, hwb, hwl⟩
      have HI := hidT hi
      have HX := hidT hx
      have x1 : (0 : Int) ≤ (j : Int) := by omega
      have x2 : (j : Int) < (n : Int) := by omega
      clear hcs hi hrb hrl hwb hwl hx
      cases hp : Lane.isMsg x with
      | true =>
        have q : (x.k == 1) = true := by simpa [Lane.isMsg] using hp
        obtain rfl : some x = o := by rw [HO.out, idx_at HN.out HX.out hp, HX.out]
        have t1 := T1.out
        clear hp
        go_wp2_with (
          refine wpList_stI rfl 33 _ _ rfl (g + 1) #[.int .i64 x.k, .int .i64 x.q, .slice BA bn bc, .slice LA ln lc, .bool x.h] rfl rfl _ _ t1 sizeE rfl (by simp [Value.oneCell']) ?_
          intro w7 hg7 hbut hbel)
        obtain ⟨r0, r1, r2, r3, r4⟩ := cells5 hg7
        have hgg := HG.out
        exact bodyPost_ret (v := .tuple #[.agg #[.int .i64 x.k, .int .i64 x.q, .slice BA bn bc, .slice LA ln lc, .bool x.h], .bool true]) (by simp [results, Try.results18, go_sem, r0, r1, r2, r3, r4]) rfl
          (⟨_, rfl, HI.out.below (hbel _ _ HB.out (by omega)), hbel _ _ HB.out (by omega)⟩)
      | false =>
        have q : (x.k == 1) = false := by simpa [Lane.isMsg] using hp
        have HP := hidT hp
        clear hp
        go_wp2
        go_round
        case rel =>
          refine ⟨j + 1, by omega, by go_num, hidT (fun i y hi hy => ?_)⟩
          by_cases hij : i = j
          · subst hij
            rw [HX.out] at hy
            injection hy with hy
            subst hy
            exact HP.out
          · exact HN.out i y (by omega) hy
        case measure => simp [intOf]; omega
    · obtain rfl : n = j := by omega
      obtain rfl : none = o := by rw [HO.out, idx_none (fun i y hi hy => HN.out i y (by have := HLEN.out; omega) hy), List.getElem?_eq_none (Nat.le_refl _)]
      have t1 := T1.out
      go_wp2_with (
        refine wpList_stI rfl 33 _ _ rfl (g + 1) ez rfl rfl _ _ t1 sizeE rfl (by kernel_rfl) ?_
        intro w7 hg7 hbut hbel)
      obtain ⟨r0, r1, r2, r3, r4⟩ := cells5 hg7
      have hgg := HG.out
      exact bodyPost_ret (v := .tuple #[.agg ez, .bool false]) (by simp [results, Try.results18, go_sem, r0, r1, r2, r3, r4]) rfl
        (⟨_, rfl, IsEn.zero _ _, hbel _ _ HB.out (by omega)⟩)

set_option maxHeartbeats 2000000 in
theorem rcontrol_any {S : Nat → Prop} (v : Value) (l : Lane.Ln) (w : World) (h : IsLane S w v l) : Calls Try.prog 20 #[v] w (GetR S w (Lane.control l)) := by
  obtain ⟨A, n, c, B, m, d, rfl, hE, hB, hWI⟩ := h
  have hle := hE.le
  have hlen := hE.size
  obtain ⟨t0, t1, hb⟩ := two_alloc w (.cells #[.slice A n c, .int .i64 l.p.seq, .int .i64 l.p.total, .int .i64 l.p.got, .slice B m d] 27) (.cells ez 33)
  obtain ⟨W, hWW⟩ : ∃ W, (w.alloc (.cells #[.slice A n c, .int .i64 l.p.seq, .int .i64 l.p.total, .int .i64 l.p.got, .slice B m d] 27)).alloc (.cells ez 33) = W := ⟨_, rfl⟩
  have HS : Hid (W.heap.size = w.heap.size + 2) := by rw [← hWW, size_alloc, size_alloc]; exact hidT rfl
  rw [hWW] at t0 t1 hb
  obtain ⟨g, hg⟩ : ∃ g, w.heap.size = g := ⟨_, rfl⟩
  rw [hg] at t0 t1
  have HG := hidT hg
  have HW := hidT hWW
  have T0 := hidT t0
  have T1 := hidT t1
  have HB := hidT hb
  have HE := hidT hE
  have HLEN := hidT hlen
  obtain ⟨e0, e1, e2, e3, e4⟩ := cells5 t0
  clear t0 t1 hb hB hWI hWW hE hlen
  obtain ⟨o, ho⟩ : ∃ o, Lane.control l = o := ⟨_, rfl⟩
  rw [ho]
  have he : o = l.es[l.es.findIdx (fun e : Lane.En => !Lane.isMsg e)]? := by rw [← ho]; exact find_idx _ _
  have HO := hidT he
  clear ho he
  rw [← HW.out] at e0 e1 e2 e3 e4
  go_enter Try.func20, Try.ntmps20
  go_wp2
  rw [HW.out] at e0 e1 e2 e3 e4 ⊢
  clear hg
  go_loop [4] (fun i => ∃ j : Nat, j ≤ n ∧ i = .int .i64 j ∧ Hid (∀ i y, i < j → l.es[i]? = some y → (fun e : Lane.En => !Lane.isMsg e) y = false)) (fun i => n - (intOf i).toNat)
  case atStart => exact ⟨0, Nat.zero_le _, rfl, hidT (fun i y hi => absurd hi (by omega))⟩
  case round =>
    obtain ⟨j, hj, rfl, HN⟩ := hrel
    by_cases hjn : j < n
    · obtain ⟨b, o', x, BA, bn, bc, LA, ln, lc, rfl, hx, hrb, hrl, hwb, hwl, hcs⟩ := HE.out.told hjn
      obtain ⟨c0, c1, c2, c3, c4⟩ := hcs W HB.out
      have hi : IsEn S w (.agg #[.int .i64 x.k, .int .i64 x.q, .slice BA bn bc, .slice LA ln lc, .bool x.h]) x := ⟨BA, bn, bc, LA, ln, lc, rfl, hrb, hrl, hwb, hwl⟩
      have HI := hidT hi
      have HX := hidT hx
      have x1 : (0 : Int) ≤ (j : Int) := by omega
      have x2 : (j : Int) < (n : Int) := by omega
      clear hcs hi hrb hrl hwb hwl hx
      cases hp : (fun e : Lane.En => !Lane.isMsg e) x with
      | true =>
        have q : (x.k == 1) = false := by simpa [Lane.isMsg] using hp
        obtain rfl : some x = o := by rw [HO.out, idx_at HN.out HX.out hp, HX.out]
        have t1 := T1.out
        clear hp
        go_wp2_with (
          refine wpList_stI rfl 33 _ _ rfl (g + 1) #[.int .i64 x.k, .int .i64 x.q, .slice BA bn bc, .slice LA ln lc, .bool x.h] rfl rfl _ _ t1 sizeE rfl (by simp [Value.oneCell']) ?_
          intro w7 hg7 hbut hbel)
        obtain ⟨r0, r1, r2, r3, r4⟩ := cells5 hg7
        have hgg := HG.out
        exact bodyPost_ret (v := .tuple #[.agg #[.int .i64 x.k, .int .i64 x.q, .slice BA bn bc, .slice LA ln lc, .bool x.h], .bool true]) (by simp [results, Try.results20, go_sem, r0, r1, r2, r3, r4]) rfl
          (⟨_, rfl, HI.out.below (hbel _ _ HB.out (by omega)), hbel _ _ HB.out (by omega)⟩)
      | false =>
        have q : (x.k == 1) = true := by simpa [Lane.isMsg] using hp
        have HP := hidT hp
        clear hp
        go_wp2
        go_round
        case rel =>
          refine ⟨j + 1, by omega, by go_num, hidT (fun i y hi hy => ?_)⟩
          by_cases hij : i = j
          · subst hij
            rw [HX.out] at hy
            injection hy with hy
            subst hy
            exact HP.out
          · exact HN.out i y (by omega) hy
        case measure => simp [intOf]; omega
    · obtain rfl : n = j := by omega
      obtain rfl : none = o := by rw [HO.out, idx_none (fun i y hi hy => HN.out i y (by have := HLEN.out; omega) hy), List.getElem?_eq_none (Nat.le_refl _)]
      have t1 := T1.out
      go_wp2_with (
        refine wpList_stI rfl 33 _ _ rfl (g + 1) ez rfl rfl _ _ t1 sizeE rfl (by kernel_rfl) ?_
        intro w7 hg7 hbut hbel)
      obtain ⟨r0, r1, r2, r3, r4⟩ := cells5 hg7
      have hgg := HG.out
      exact bodyPost_ret (v := .tuple #[.agg ez, .bool false]) (by simp [results, Try.results20, go_sem, r0, r1, r2, r3, r4]) rfl
        (⟨_, rfl, IsEn.zero _ _, hbel _ _ HB.out (by omega)⟩)
end Go.Proofs.Ytmlmkkfieeaejaa
