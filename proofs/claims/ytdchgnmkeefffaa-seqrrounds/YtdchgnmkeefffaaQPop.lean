/- What the document's Pop and Set come to, and where the lists lie. -/
import Derived.Test.YtdchgnmkeefffaaRBX
set_option maxRecDepth 100000
namespace Go.Proofs.Ytdchgnmkeefffaa
open Go.RowKit
set_option linter.unusedVariables false

set_option maxHeartbeats 4000000 in
theorem qpop_any {S T : Nat → Prop} (v : Value) (l : Lane.Ln) (s : Int) (w : World) (h : IsLane S w v l) (hn6 : l.es.length ≤ 65536) (hT1 : ∀ b, S b → T b) (hT3 : ∀ b, w.heap.size ≤ b → T b) :
    Calls Try.prog 31 #[v, .int .i64 s] w (RLaneT w T (Lane.pop l s)) := by
  obtain ⟨A, n, c, B, m, d, rfl, hE, hB, hWB⟩ := h
  have HWB := hidT (hWB.mono hT1)
  have HT1 := hidT hT1
  have HT3 := hidT hT3
  clear hWB hT1 hT3
  have hle := hE.le
  have hlen := hE.size
  obtain ⟨rs, hK, hA, _⟩ := hE
  obtain ⟨t0, t1, t4⟩ := two_alloc w (.cells #[.slice A n c, .int .i64 l.p.seq, .int .i64 l.p.total, .int .i64 l.p.got, .slice B m d] 51) (.cells lz 51)
  obtain ⟨W, hW⟩ : ∃ W, (w.alloc (.cells #[.slice A n c, .int .i64 l.p.seq, .int .i64 l.p.total, .int .i64 l.p.got, .slice B m d] 51)).alloc (.cells lz 51) = W := ⟨_, rfl⟩
  have HSZ : Hid (W.heap.size = w.heap.size + 2) := by rw [← hW, size_alloc, size_alloc]; exact hidT rfl
  rw [hW] at t0 t1 t4
  obtain ⟨g, hg⟩ : ∃ g, w.heap.size = g := ⟨_, rfl⟩
  have HG := hidT hg
  rw [hg] at t0 t1
  have HW := hidT hW
  have T0 := hidT t0
  have T1 := hidT t1
  have T4 := hidT t4
  have HK := hidT hK
  have HA := hidT hA
  have HBB := hidT hB
  have HLEN := hidT hlen
  have HN6 := hidT hn6
  clear t0 t1 t4 hW hK hA hB hlen hn6
  go_enter Try.func31, Try.ntmps31
  go_wp2
  rw [HW.out]
  clear hg
  go_loopw [5, 6] (fun q i wr => ∃ (j k : Nat) (A5 : Option Addr) (c5 : Nat) (rs' : List (Array Value)), j ≤ n ∧ k ≤ j ∧ i = .int .i64 j ∧ q = .slice A5 k c5 ∧ Hid (OwnK 5 wr W.heap.size 59 (.slice A5 k c5) k rs') ∧ Hid (rs' = (((rs.zip l.es).take j).filter fun z => decide (z.2.q ≠ s)).map Prod.fst) ∧ Hid (Below W.heap.size W wr)) (fun _ i _ => n - (intOf i).toNat)
  case atStart => exact ⟨0, 0, none, 0, [], Nat.zero_le _, Nat.le_refl _, rfl, rfl, hidT (OwnK.nil_ _ _ _ _), hidT rfl, hidT (Below.refl _ _)⟩
  case round =>
    obtain ⟨j, k, A5, c5, rs', hj, hkj, rfl, rfl, HO, HR, HB⟩ := hrel
    obtain ⟨e0, e1, e2, e3, e4⟩ := cells5 (keepH T0.out HB.out)
    have hbw := bthen T4.out HB.out
    by_cases hjn : j < n
    · obtain ⟨x, hx⟩ : ∃ x, l.es[j]? = some x := ⟨_, List.getElem?_eq_getElem (by have := HLEN.out; omega)⟩
      obtain ⟨r, hr⟩ : ∃ r, rs[j]? = some r := ⟨_, List.getElem?_eq_getElem (by rw [HA.out.1, HLEN.out]; exact hjn)⟩
      obtain ⟨BA, bn, bc, LA, ln, lc, ev, _, _, _, _⟩ := HA.out.2 j r x hr hx
      injection ev with ev
      subst ev
      obtain ⟨b, o, rfl⟩ := HK.out.addr (by omega)
      have hc : ∀ (i : Nat) (u : Value), (#[.int .i64 x.k, .int .i64 x.q, .slice BA bn bc, .slice LA ln lc, .bool x.h] : Array Value)[i]? = some u → wr.cell? ⟨b, o + j * 5 + i, none⟩ = some u := fun i u hh => (hbw.cell (World.block_lt_of_cell? w _ (HK.out.cell hr hh))).trans (HK.out.cell hr hh)
      have c0 := hc 0 _ rfl
      have c1 := hc 1 _ rfl
      have c2 := hc 2 _ rfl
      have c3 := hc 3 _ rfl
      have c4 := hc 4 _ rfl
      simp only [Nat.add_zero] at c0
      have hz := zip_take (zip_at hr hx)
      have x1 : (0 : Int) ≤ (j : Int) := by omega
      have x2 : (j : Int) < (n : Int) := by omega
      have HZ := hidT hz
      clear hc hx hr hz
      by_cases hq : x.q = s
      · have q1 : (x.q != s) = false := by simpa using hq
        have q1' : (x.q == s) = true := by simpa using hq
        have HR2 : Hid (rs' = (((rs.zip l.es).take (j + 1)).filter fun z => decide (z.2.q ≠ s)).map Prod.fst) := hidT (by rw [HZ.out, List.filter_append, List.filter_cons, if_neg (by simpa using hq), List.filter_nil, List.append_nil]; exact HR.out)
        clear hq hbw
        go_wp2
        exact ⟨⟨j + 1, k, A5, c5, rs', by omega, by omega, by go_num, rfl, HO, HR2, HB⟩, by simp [intOf]; omega⟩
      · have q1 : (x.q != s) = true := by simpa using hq
        have q1' : (x.q == s) = false := by simpa using hq
        have HR2 : Hid (rs' ++ [#[.int .i64 x.k, .int .i64 x.q, .slice BA bn bc, .slice LA ln lc, .bool x.h]] = (((rs.zip l.es).take (j + 1)).filter fun z => decide (z.2.q ≠ s)).map Prod.fst) := hidT (by rw [HZ.out, List.filter_append, List.filter_cons, if_pos (by simpa using hq), List.filter_nil, List.map_append, ← HR.out]; rfl)
        have HN2 := hidT (nkeep wr (.cells #[.int .i64 x.k, .int .i64 x.q, .slice BA bn bc, .slice LA ln lc, .bool x.h] 59))
        have HO2 := hidT (HO.out.later HN2.out)
        have HL2 := hidT (RdK.lit (k := 5) wr 59 (0, 0) #[.int .i64 x.k, .int .i64 x.q, .slice BA bn bc, .slice LA ln lc, .bool x.h] [#[.int .i64 x.k, .int .i64 x.q, .slice BA bn bc, .slice LA ln lc, .bool x.h]] (AllK.one rfl (by simp [Value.oneCell'])) (by simp [flat]) 1 rfl (by simp only [maxLen]; omega) wr.heap.size rfl)
        have HS2 : Hid (W.heap.size ≤ (wr.alloc (.cells #[.int .i64 x.k, .int .i64 x.q, .slice BA bn bc, .slice LA ln lc, .bool x.h] 59)).heap.size) := hidT (by have := HB.out.size; rw [size_alloc]; omega)
        have hk65 : k + 1 ≤ 16777216 := by have := HN6.out; have := HLEN.out; omega
        clear hq hbw
        go_wp2_with (
          at_builtin
          refine wpList_appK 5 (by omega) rfl (.tmp 22) (.tmp 28) 47 rfl W.heap.size 59 _ 72 infoE rfl (by omega) Try.underlying47 (.slice A5 k c5) k rs' rfl HO2.out (some ⟨wr.heap.size, 0, none⟩) 1 1 [#[.int .i64 x.k, .int .i64 x.q, .slice BA bn bc, .slice LA ln lc, .bool x.h]] rfl HL2.out (by omega) HS2.out ?_
          intro v1 w1 hown hb1 hg1
          obtain ⟨A6, c6, rfl, hrd6⟩ := OwnK.rd hown
          have HOW := hidT hown
          have HB1 := hidT ((bthen HB.out HN2.out).trans hb1)
          clear hown hrd6 hb1 hg1)
        exact ⟨⟨j + 1, k + 1, A6, c6, _, by omega, by omega, by go_num, rfl, HOW, HR2, HB1⟩, by simp [intOf]; omega⟩
    · obtain rfl : n = j := by omega
      have hall : (rs.zip l.es).take n = rs.zip l.es := List.take_of_length_le (by rw [List.length_zip, HA.out.1, HLEN.out]; omega)
      rw [hall] at HR
      have y1 := keepH T1.out HB.out
      go_wp2_with (
        refine wpList_stI rfl 51 _ _ rfl (g + 1) #[.slice A5 k c5, .int .i64 l.p.seq, .int .i64 l.p.total, .int .i64 l.p.got, .slice B m d] rfl rfl _ _ y1 sizeL rfl (by simp [Value.oneCell']) ?_
        intro w7 hg7 hbut hbel)
      obtain ⟨r0, r1, r2, r3, r4⟩ := cells5 hg7
      have hgg := HG.out
      have hsz := HSZ.out
      have bW : Below w.heap.size w w7 := hbel _ _ (bthen T4.out HB.out) (by omega)
      have hrd := (HO.out.but (by omega) hbut).same
      have hare := ((HA.out.mono HT1.out).below bW).filt (fun y => decide (y.q ≠ s))
      rw [← HR.out] at hare
      exact bodyPost_ret (v := .agg #[.slice A5 k c5, .int .i64 l.p.seq, .int .i64 l.p.total, .int .i64 l.p.got, .slice B m d]) (by simp [results, Try.results31, go_sem, r0, r1, r2, r3, r4]) rfl
        ⟨_, rfl, ⟨A5, k, c5, B, m, d, rfl, ⟨_, hrd, hare, fun _ b o e => HT3.out b (by have := (HO.out.addr b o e).1; omega)⟩, HBB.out.below bW, HWB.out⟩, bW⟩
set_option maxHeartbeats 4000000 in
theorem qset_yes {S S' T : Nat → Prop} (v u : Value) (l : Lane.Ln) (e : Lane.En) (w : World) (h : IsLane S w v l) (he : IsEn S' w u e) (hm : Lane.may e = true) (hn6 : l.es.length ≤ 65536) (hT1 : ∀ b, S b → T b) (hT2 : ∀ b, S' b → T b) (hT3 : ∀ b, w.heap.size ≤ b → T b) :
    Calls Try.prog 33 #[v, u] w (RLaneT w T ⟨l.es.map (Lane.put e), l.p⟩) := by
  obtain ⟨A, n, c, B, m, d, rfl, hE, hB, hWB⟩ := h
  have HWB := hidT (hWB.mono hT1)
  have HT1 := hidT hT1
  have HT2 := hidT hT2
  have HT3 := hidT hT3
  clear hWB hT1 hT2 hT3
  obtain ⟨BE, be, ce, LE, le, ke, rfl, hb, hl, hwb, hwl⟩ := he
  have hen : IsEn S' w (.agg #[.int .i64 e.k, .int .i64 e.q, .slice BE be ce, .slice LE le ke, .bool e.h]) e := ⟨BE, be, ce, LE, le, ke, rfl, hb, hl, hwb, hwl⟩
  have hle := hE.le
  have hlen := hE.size
  obtain ⟨rs, hK, hA, _⟩ := hE
  obtain ⟨t0, t1, t2, t4⟩ := three_alloc w (.cells #[.slice A n c, .int .i64 l.p.seq, .int .i64 l.p.total, .int .i64 l.p.got, .slice B m d] 51) (.cells #[.int .i64 e.k, .int .i64 e.q, .slice BE be ce, .slice LE le ke, .bool e.h] 59) (.cells lz 51)
  obtain ⟨W, hW⟩ : ∃ W, ((w.alloc (.cells #[.slice A n c, .int .i64 l.p.seq, .int .i64 l.p.total, .int .i64 l.p.got, .slice B m d] 51)).alloc (.cells #[.int .i64 e.k, .int .i64 e.q, .slice BE be ce, .slice LE le ke, .bool e.h] 59)).alloc (.cells lz 51) = W := ⟨_, rfl⟩
  have HSZ : Hid (W.heap.size = w.heap.size + 3) := by rw [← hW, size_alloc, size_alloc, size_alloc]; exact hidT rfl
  rw [hW] at t0 t1 t2 t4
  obtain ⟨g, hg⟩ : ∃ g, w.heap.size = g := ⟨_, rfl⟩
  have HG := hidT hg
  rw [hg] at t0 t1 t2
  have HW := hidT hW
  have T0 := hidT t0
  have T1 := hidT t1
  have T2 := hidT t2
  have T4 := hidT t4
  have HK := hidT hK
  have HA := hidT hA
  have HBB := hidT hB
  have HEN := hidT hen
  have HLEN := hidT hlen
  obtain ⟨f0, f1, f2, f3, f4⟩ := cells5 t1
  clear t0 t1 t2 t4 hW hK hA hB hlen hen hb hl hwb hwl
  have hmay := rlmay_any _ e W (HEN.out.below T4.out) true hm
  have HN6 := hidT hn6
  clear hm hn6
  go_enter Try.func33, Try.ntmps33
  rw [← HW.out] at f0 f1 f2 f3 f4
  go_wp2_with fail
  rw [HW.out]
  clear hg f0 f1 f2 f3 f4
  with_reducible refine hmay.mono ?_
  rintro e' w5 ⟨rfl, hb5⟩
  have HB5 := hidT hb5
  clear hb5 hmay
  go_wp2
  go_loopw [6, 7] (fun q i wr => ∃ (j : Nat) (A5 : Option Addr) (c5 : Nat) (rs' : List (Array Value)), j ≤ n ∧ i = .int .i64 j ∧ q = .slice A5 j c5 ∧ Hid (OwnK 5 wr W.heap.size 59 (.slice A5 j c5) j rs') ∧ Hid (rs' = ((rs.zip l.es).take j).map fun z => if z.2.q = e.q then #[.int .i64 e.k, .int .i64 e.q, .slice BE be ce, .slice LE le ke, .bool e.h] else z.1) ∧ Hid (Below W.heap.size W wr)) (fun _ i _ => n - (intOf i).toNat)
  case atStart => exact ⟨0, none, 0, [], Nat.zero_le _, rfl, rfl, hidT (OwnK.nil_ _ _ _ _), hidT rfl, HB5⟩
  case round =>
    obtain ⟨k, A5, c5, rs', hj, rfl, rfl, HO, HR, HB⟩ := hrel
    obtain ⟨e0, e1, e2, e3, e4⟩ := cells5 (keepH T0.out HB.out)
    obtain ⟨f0, f1, f2, f3, f4⟩ := cells5 (keepH T1.out HB.out)
    have hbw := bthen T4.out HB.out
    by_cases hjn : k < n
    · obtain ⟨x, hx⟩ : ∃ x, l.es[k]? = some x := ⟨_, List.getElem?_eq_getElem (by have := HLEN.out; omega)⟩
      obtain ⟨r, hr⟩ : ∃ r, rs[k]? = some r := ⟨_, List.getElem?_eq_getElem (by rw [HA.out.1, HLEN.out]; exact hjn)⟩
      obtain ⟨BA, bn, bc, LA, ln, lc, ev, _, _, _, _⟩ := HA.out.2 k r x hr hx
      injection ev with ev
      subst ev
      obtain ⟨b, o, rfl⟩ := HK.out.addr (by omega)
      have hc : ∀ (i : Nat) (u : Value), (#[.int .i64 x.k, .int .i64 x.q, .slice BA bn bc, .slice LA ln lc, .bool x.h] : Array Value)[i]? = some u → ∀ w', Below w.heap.size w w' → w'.cell? ⟨b, o + k * 5 + i, none⟩ = some u := fun i u hh w' hb' => (hb'.cell (World.block_lt_of_cell? w _ (HK.out.cell hr hh))).trans (HK.out.cell hr hh)
      have hz := zip_take (zip_at hr hx)
      have x1 : (0 : Int) ≤ (k : Int) := by omega
      have x2 : (k : Int) < (n : Int) := by omega
      have HZ := hidT hz
      have HC := hidT hc
      have HBW := hidT hbw
      have NE := Later.ne wr
      have k1 : ∀ m' : Later wr, m'.w.cell? ⟨b, o + k * 5 + 1, none⟩ = some (.int .i64 x.q) := fun m' => HC.out 1 _ rfl m'.w (bthen HBW.out m'.h)
      have k2 := Later.cell e0
      have k3 := Later.cell f1
      clear hc hx hr hz hbw
      by_cases hq : x.q = e.q
      · have q1 : (x.q == e.q) = true := by simpa using hq
        have HR2 : Hid (rs' ++ [#[.int .i64 e.k, .int .i64 e.q, .slice BE be ce, .slice LE le ke, .bool e.h]] = ((rs.zip l.es).take (k + 1)).map fun z => if z.2.q = e.q then #[.int .i64 e.k, .int .i64 e.q, .slice BE be ce, .slice LE le ke, .bool e.h] else z.1) := hidT (by rw [HZ.out, List.map_append, ← HR.out, List.map_cons]; dsimp only; rw [if_pos hq]; rfl)
        clear hq
        go_wp2_with fail
        refine wp_later (by kernel_rfl) (by kernel_rfl) ?_
        repeat (go_big_quiet_step (fail))
        refine wpQuiet_nil ?_
        intro w9 hw9
        obtain ⟨⟨_, hb9⟩, rfl⟩ := hw9
        have HB9 := hidT (bthen HB.out hb9)
        have HOO := hidT (HO.out.later hb9)
        obtain ⟨e0, e1, e2, e3, e4⟩ := cells5 (keepH T0.out HB9.out)
        obtain ⟨f0, f1, f2, f3, f4⟩ := cells5 (keepH T1.out HB9.out)
        have HN2 := hidT (nkeep w9 (.cells #[.int .i64 e.k, .int .i64 e.q, .slice BE be ce, .slice LE le ke, .bool e.h] 59))
        have HO2 := hidT (HOO.out.later HN2.out)
        have HL2 := hidT (RdK.lit (k := 5) w9 59 (0, 0) #[.int .i64 e.k, .int .i64 e.q, .slice BE be ce, .slice LE le ke, .bool e.h] [#[.int .i64 e.k, .int .i64 e.q, .slice BE be ce, .slice LE le ke, .bool e.h]] (AllK.one rfl (by simp [Value.oneCell'])) (by simp [flat]) 1 rfl (by simp only [maxLen]; omega) w9.heap.size rfl)
        have HS2 : Hid (W.heap.size ≤ (w9.alloc (.cells #[.int .i64 e.k, .int .i64 e.q, .slice BE be ce, .slice LE le ke, .bool e.h] 59)).heap.size) := hidT (by have := HB9.out.size; rw [size_alloc]; omega)
        have hk65 : k + 1 ≤ 16777216 := by have := HN6.out; have := HLEN.out; omega
        clear hb9 k1 k2 k3 NE
        go_wp2_with (
          at_builtin
          refine wpList_appK 5 (by omega) rfl (.tmp 29) (.tmp 31) 47 rfl W.heap.size 59 _ 72 infoE rfl (by omega) Try.underlying47 (.slice A5 k c5) k rs' rfl HO2.out (some ⟨w9.heap.size, 0, none⟩) 1 1 [#[.int .i64 e.k, .int .i64 e.q, .slice BE be ce, .slice LE le ke, .bool e.h]] rfl HL2.out (by omega) HS2.out ?_
          intro v1 w1 hown hb1 hg1
          obtain ⟨A6, c6, rfl, hrd6⟩ := OwnK.rd hown
          have HOW := hidT hown
          have HB1 := hidT ((bthen HB9.out HN2.out).trans hb1)
          clear hown hrd6 hb1 hg1)
        exact ⟨⟨k + 1, A6, c6, _, by omega, by go_num, rfl, HOW, HR2, HB1⟩, by simp [intOf]; omega⟩
      · have q1 : (x.q == e.q) = false := by simpa using hq
        have HR2 : Hid (rs' ++ [#[.int .i64 x.k, .int .i64 x.q, .slice BA bn bc, .slice LA ln lc, .bool x.h]] = ((rs.zip l.es).take (k + 1)).map fun z => if z.2.q = e.q then #[.int .i64 e.k, .int .i64 e.q, .slice BE be ce, .slice LE le ke, .bool e.h] else z.1) := hidT (by rw [HZ.out, List.map_append, ← HR.out, List.map_cons]; dsimp only; rw [if_neg hq]; rfl)
        clear hq
        go_wp2_with fail
        refine wp_later (by kernel_rfl) (by kernel_rfl) ?_
        repeat (go_big_quiet_step (fail))
        refine wpQuiet_nil ?_
        intro w9 hw9
        obtain ⟨⟨_, hb9⟩, rfl⟩ := hw9
        have HB9 := hidT (bthen HB.out hb9)
        have HOO := hidT (HO.out.later hb9)
        obtain ⟨e0, e1, e2, e3, e4⟩ := cells5 (keepH T0.out HB9.out)
        have hbw9 := bthen T4.out HB9.out
        have c0 := HC.out 0 _ rfl w9 hbw9
        have c1 := HC.out 1 _ rfl w9 hbw9
        have c2 := HC.out 2 _ rfl w9 hbw9
        have c3 := HC.out 3 _ rfl w9 hbw9
        have c4 := HC.out 4 _ rfl w9 hbw9
        simp only [Nat.add_zero] at c0
        have HN2 := hidT (nkeep w9 (.cells #[.int .i64 x.k, .int .i64 x.q, .slice BA bn bc, .slice LA ln lc, .bool x.h] 59))
        have HO2 := hidT (HOO.out.later HN2.out)
        have HL2 := hidT (RdK.lit (k := 5) w9 59 (0, 0) #[.int .i64 x.k, .int .i64 x.q, .slice BA bn bc, .slice LA ln lc, .bool x.h] [#[.int .i64 x.k, .int .i64 x.q, .slice BA bn bc, .slice LA ln lc, .bool x.h]] (AllK.one rfl (by simp [Value.oneCell'])) (by simp [flat]) 1 rfl (by simp only [maxLen]; omega) w9.heap.size rfl)
        have HS2 : Hid (W.heap.size ≤ (w9.alloc (.cells #[.int .i64 x.k, .int .i64 x.q, .slice BA bn bc, .slice LA ln lc, .bool x.h] 59)).heap.size) := hidT (by have := HB9.out.size; rw [size_alloc]; omega)
        have hk65 : k + 1 ≤ 16777216 := by have := HN6.out; have := HLEN.out; omega
        clear hb9 k1 k2 k3 NE hbw9
        go_wp2_with (
          at_builtin
          refine wpList_appK 5 (by omega) rfl (.tmp 33) (.tmp 39) 47 rfl W.heap.size 59 _ 72 infoE rfl (by omega) Try.underlying47 (.slice A5 k c5) k rs' rfl HO2.out (some ⟨w9.heap.size, 0, none⟩) 1 1 [#[.int .i64 x.k, .int .i64 x.q, .slice BA bn bc, .slice LA ln lc, .bool x.h]] rfl HL2.out (by omega) HS2.out ?_
          intro v1 w1 hown hb1 hg1
          obtain ⟨A6, c6, rfl, hrd6⟩ := OwnK.rd hown
          have HOW := hidT hown
          have HB1 := hidT ((bthen HB9.out HN2.out).trans hb1)
          clear hown hrd6 hb1 hg1)
        exact ⟨⟨k + 1, A6, c6, _, by omega, by go_num, rfl, HOW, HR2, HB1⟩, by simp [intOf]; omega⟩
    · obtain rfl : n = k := by omega
      have hall : (rs.zip l.es).take n = rs.zip l.es := List.take_of_length_le (by rw [List.length_zip, HA.out.1, HLEN.out]; omega)
      rw [hall] at HR
      have y2 := keepH T2.out HB.out
      go_wp2_with (
        refine wpList_stI rfl 51 _ _ rfl (g + 1 + 1) #[.slice A5 n c5, .int .i64 l.p.seq, .int .i64 l.p.total, .int .i64 l.p.got, .slice B m d] rfl rfl _ _ y2 sizeL rfl (by simp [Value.oneCell']) ?_
        intro w7 hg7 hbut hbel)
      obtain ⟨r0, r1, r2, r3, r4⟩ := cells5 hg7
      have hgg := HG.out
      have hsz := HSZ.out
      have bW : Below w.heap.size w w7 := hbel _ _ (bthen T4.out HB.out) (by omega)
      have hrd := (HO.out.but (by omega) hbut).same
      have hare := ((HA.out.mono HT1.out).below bW).puts ((HEN.out.mono HT2.out).below bW)
      rw [← HR.out] at hare
      exact bodyPost_ret (v := .agg #[.slice A5 n c5, .int .i64 l.p.seq, .int .i64 l.p.total, .int .i64 l.p.got, .slice B m d]) (by simp [results, Try.results33, go_sem, r0, r1, r2, r3, r4]) rfl
        ⟨_, rfl, ⟨A5, n, c5, B, m, d, rfl, ⟨_, hrd, hare, fun _ b o e => HT3.out b (by have := (HO.out.addr b o e).1; omega)⟩, HBB.out.below bW, HWB.out⟩, bW⟩
theorem qset_any {S S' T : Nat → Prop} (v u : Value) (l : Lane.Ln) (e : Lane.En) (w : World) (h : IsLane S w v l) (he : IsEn S' w u e) (hm : Lane.may e = true) (hn6 : l.es.length ≤ 65536) (hT1 : ∀ b, S b → T b) (hT2 : ∀ b, S' b → T b) (hT3 : ∀ b, w.heap.size ≤ b → T b) :
    Calls Try.prog 33 #[v, u] w (RLaneT w T (Lane.set l e)) := by
  have e1 : Lane.set l e = ⟨l.es.map (Lane.put e), l.p⟩ := by unfold Lane.set; rw [if_pos hm]
  rw [e1]; exact qset_yes v u l e w h he hm hn6 hT1 hT2 hT3
end Go.Proofs.Ytdchgnmkeefffaa
