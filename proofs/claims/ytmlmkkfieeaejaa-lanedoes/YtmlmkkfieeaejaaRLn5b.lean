/- What the document's Pop comes to. -/
import Derived.Test.YtmlmkkfieeaejaaRLn5
set_option maxRecDepth 100000
namespace Go.Proofs.Ytmlmkkfieeaejaa
open Go.RowKit
set_option linter.unusedVariables false

theorem AreE.cons {S : Nat → Prop} {w : World} {r : Array Value} {rs : List (Array Value)} {x : Lane.En} {xs : List Lane.En} : AreE S w (r :: rs) (x :: xs) ↔ IsEn S w (.agg r) x ∧ AreE S w rs xs := by
  constructor
  · intro h
    exact ⟨h.2 0 r x rfl rfl, by have := h.1; simpa using this, fun i q y h1 h2 => h.2 (i + 1) q y (by simpa using h1) (by simpa using h2)⟩
  · rintro ⟨h1, h2⟩
    have := (AreE.one h1).app h2
    simpa using this
theorem AreE.filt {S : Nat → Prop} {w : World} {rs : List (Array Value)} {xs : List Lane.En} (h : AreE S w rs xs) (f : Lane.En → Bool) : AreE S w (((rs.zip xs).filter fun z => f z.2).map Prod.fst) (xs.filter f) := by
  induction rs generalizing xs with
  | nil =>
    have : xs = [] := List.eq_nil_of_length_eq_zero (by have := h.1; simpa using this.symm)
    subst this
    exact AreE.nil_ _ _
  | cons r rs ih =>
    cases xs with
    | nil => have := h.1; simp at this
    | cons x xs =>
      obtain ⟨h1, h2⟩ := AreE.cons.1 h
      have := ih h2
      rw [List.zip_cons_cons, List.filter_cons, List.filter_cons]
      cases hf : f x with
      | true => rw [if_pos (by simp), if_pos rfl, List.map_cons]; exact AreE.cons.2 ⟨h1, this⟩
      | false => rw [if_neg (by simp), if_neg (by simp)]; exact this
theorem AreE.puts {S : Nat → Prop} {w : World} {rs : List (Array Value)} {xs : List Lane.En} (h : AreE S w rs xs) {re : Array Value} {e : Lane.En} (he : IsEn S w (.agg re) e) : AreE S w ((rs.zip xs).map fun z => if z.2.q = e.q then re else z.1) (xs.map (Lane.put e)) := by
  induction rs generalizing xs with
  | nil =>
    have : xs = [] := List.eq_nil_of_length_eq_zero (by have := h.1; simpa using this.symm)
    subst this
    exact AreE.nil_ _ _
  | cons r rs ih =>
    cases xs with
    | nil => have := h.1; simp at this
    | cons x xs =>
      obtain ⟨h1, h2⟩ := AreE.cons.1 h
      have := ih h2
      rw [List.zip_cons_cons, List.map_cons, List.map_cons]
      refine AreE.cons.2 ⟨?_, this⟩
      unfold Lane.put
      dsimp only
      by_cases hq : x.q = e.q
      · rw [if_pos hq, if_pos hq]; exact he
      · rw [if_neg hq, if_neg hq]; exact h1
theorem zip_at {α β : Type} {rs : List α} {xs : List β} {j : Nat} {r : α} {x : β} (h1 : rs[j]? = some r) (h2 : xs[j]? = some x) : (rs.zip xs)[j]? = some (r, x) := by
  rw [List.getElem?_zip_eq_some]; exact ⟨h1, h2⟩
theorem zip_take {α β : Type} {rs : List α} {xs : List β} {j : Nat} {z : α × β} (h : (rs.zip xs)[j]? = some z) : (rs.zip xs).take (j + 1) = (rs.zip xs).take j ++ [z] := by rw [List.take_add_one, h]; rfl

set_option maxHeartbeats 4000000 in
theorem rpop_any {S : Nat → Prop} (v : Value) (l : Lane.Ln) (s : Int) (w : World) (h : IsLane S w v l) (hn6 : l.es.length ≤ 65536) :
    Calls Try.prog 30 #[v, .int .i64 s] w (RLaneIs w (Lane.pop l s)) := by
  obtain ⟨A, n, c, B, m, d, rfl, hE, hB, _⟩ := h
  have hle := hE.le
  have hlen := hE.size
  obtain ⟨rs, hK, hA, _⟩ := hE
  obtain ⟨t0, t1, t4⟩ := two_alloc w (.cells #[.slice A n c, .int .i64 l.p.seq, .int .i64 l.p.total, .int .i64 l.p.got, .slice B m d] 27) (.cells lz 27)
  obtain ⟨W, hW⟩ : ∃ W, (w.alloc (.cells #[.slice A n c, .int .i64 l.p.seq, .int .i64 l.p.total, .int .i64 l.p.got, .slice B m d] 27)).alloc (.cells lz 27) = W := ⟨_, rfl⟩
  have HSZ : Hid (W.heap.size = w.heap.size + 2) := by rw [← hW, size_alloc, size_alloc]; exact hidT rfl
  rw [hW] at t0 t1 t4
  obtain ⟨g, hg⟩ : ∃ g, w.heap.size = g := ⟨_, rfl⟩
  have HG := hidT hg
  rw [hg] at t0 t1
  have HW := hidT hW
  have T0 := hidT t0
  have T1 := hidT t1
  have T4 := hidT t4
  have HK := hidT hK
  have HA := hidT hA
  have HBB := hidT hB
  have HLEN := hidT hlen
  have HN6 := hidT hn6
  clear t0 t1 t4 hW hK hA hB hlen hn6
  go_enter Try.func30, Try.ntmps30
  go_wp2
  rw [HW.out]
  clear hg
  go_loopw [5, 6] (fun q i wr => ∃ (j k : Nat) (A5 : Option Addr) (c5 : Nat) (rs' : List (Array Value)), j ≤ n ∧ k ≤ j ∧ i = .int .i64 j ∧ q = .slice A5 k c5 ∧ Hid (OwnK 5 wr W.heap.size 33 (.slice A5 k c5) k rs') ∧ Hid (rs' = (((rs.zip l.es).take j).filter fun z => decide (z.2.q ≠ s)).map Prod.fst) ∧ Hid (Below W.heap.size W wr)) (fun _ i _ => n - (intOf i).toNat)
  case atStart => exact ⟨0, 0, none, 0, [], Nat.zero_le _, Nat.le_refl _, rfl, rfl, hidT (OwnK.nil_ _ _ _ _), hidT rfl, hidT (Below.refl _ _)⟩
  case round =>
    obtain ⟨j, k, A5, c5, rs', hj, hkj, rfl, rfl, HO, HR, HB⟩ := hrel
    obtain ⟨e0, e1, e2, e3, e4⟩ := cells5 (keepH T0.out HB.out)
    have hbw := bthen T4.out HB.out
    by_cases hjn : j < n
    · obtain ⟨x, hx⟩ : ∃ x, l.es[j]? = some x := ⟨_, List.getElem?_eq_getElem (by have := HLEN.out; omega)⟩
      obtain ⟨r, hr⟩ : ∃ r, rs[j]? = some r := ⟨_, List.getElem?_eq_getElem (by rw [HA.out.1, HLEN.out]; exact hjn)⟩
      obtain ⟨BA, bn, bc, LA, ln, lc, ev, _, _, _, _⟩ := HA.out.2 j r x hr hx
      injection ev with ev
      subst ev
      obtain ⟨b, o, rfl⟩ := HK.out.addr (by omega)
      have hc : ∀ (i : Nat) (u : Value), (#[.int .i64 x.k, .int .i64 x.q, .slice BA bn bc, .slice LA ln lc, .bool x.h] : Array Value)[i]? = some u → wr.cell? ⟨b, o + j * 5 + i, none⟩ = some u := fun i u hh => (hbw.cell (World.block_lt_of_cell? w _ (HK.out.cell hr hh))).trans (HK.out.cell hr hh)
      have c0 := hc 0 _ rfl
      have c1 := hc 1 _ rfl
      have c2 := hc 2 _ rfl
      have c3 := hc 3 _ rfl
      have c4 := hc 4 _ rfl
      simp only [Nat.add_zero] at c0
      have hz := zip_take (zip_at hr hx)
      have x1 : (0 : Int) ≤ (j : Int) := by omega
      have x2 : (j : Int) < (n : Int) := by omega
      have HZ := hidT hz
      clear hc hx hr hz
      by_cases hq : x.q = s
      · have q1 : (x.q != s) = false := by simpa using hq
        have q1' : (x.q == s) = true := by simpa using hq
        have HR2 : Hid (rs' = (((rs.zip l.es).take (j + 1)).filter fun z => decide (z.2.q ≠ s)).map Prod.fst) := hidT (by rw [HZ.out, List.filter_append, List.filter_cons, if_neg (by simpa using hq), List.filter_nil, List.append_nil]; exact HR.out)
        clear hq hbw
        go_wp2
        exact ⟨⟨j + 1, k, A5, c5, rs', by omega, by omega, by go_num, rfl, HO, HR2, HB⟩, by simp [intOf]; omega⟩
      · have q1 : (x.q != s) = true := by simpa using hq
        have q1' : (x.q == s) = false := by simpa using hq
        have HR2 : Hid (rs' ++ [#[.int .i64 x.k, .int .i64 x.q, .slice BA bn bc, .slice LA ln lc, .bool x.h]] = (((rs.zip l.es).take (j + 1)).filter fun z => decide (z.2.q ≠ s)).map Prod.fst) := hidT (by rw [HZ.out, List.filter_append, List.filter_cons, if_pos (by simpa using hq), List.filter_nil, List.map_append, ← HR.out]; rfl)
        have HN2 := hidT (nkeep wr (.cells #[.int .i64 x.k, .int .i64 x.q, .slice BA bn bc, .slice LA ln lc, .bool x.h] 33))
        have HO2 := hidT (HO.out.later HN2.out)
        have HL2 := hidT (RdK.lit (k := 5) wr 33 (0, 0) #[.int .i64 x.k, .int .i64 x.q, .slice BA bn bc, .slice LA ln lc, .bool x.h] [#[.int .i64 x.k, .int .i64 x.q, .slice BA bn bc, .slice LA ln lc, .bool x.h]] (AllK.one rfl (by simp [Value.oneCell'])) (by simp [flat]) 1 rfl (by simp only [maxLen]; omega) wr.heap.size rfl)
        have HS2 : Hid (W.heap.size ≤ (wr.alloc (.cells #[.int .i64 x.k, .int .i64 x.q, .slice BA bn bc, .slice LA ln lc, .bool x.h] 33)).heap.size) := hidT (by have := HB.out.size; rw [size_alloc]; omega)
        have hk65 : k + 1 ≤ 16777216 := by have := HN6.out; have := HLEN.out; omega
        clear hq hbw
        go_wp2_with (
          at_builtin
          refine wpList_appK 5 (by omega) rfl (.tmp 22) (.tmp 28) 22 rfl W.heap.size 33 _ 72 infoE rfl (by omega) Try.underlying22 (.slice A5 k c5) k rs' rfl HO2.out (some ⟨wr.heap.size, 0, none⟩) 1 1 [#[.int .i64 x.k, .int .i64 x.q, .slice BA bn bc, .slice LA ln lc, .bool x.h]] rfl HL2.out (by omega) HS2.out ?_
          intro v1 w1 hown hb1 hg1
          obtain ⟨A6, c6, rfl, hrd6⟩ := OwnK.rd hown
          have HOW := hidT hown
          have HB1 := hidT ((bthen HB.out HN2.out).trans hb1)
          clear hown hrd6 hb1 hg1)
        exact ⟨⟨j + 1, k + 1, A6, c6, _, by omega, by omega, by go_num, rfl, HOW, HR2, HB1⟩, by simp [intOf]; omega⟩
    · obtain rfl : n = j := by omega
      have hall : (rs.zip l.es).take n = rs.zip l.es := List.take_of_length_le (by rw [List.length_zip, HA.out.1, HLEN.out]; omega)
      rw [hall] at HR
      have y1 := keepH T1.out HB.out
      go_wp2_with (
        refine wpList_stI rfl 27 _ _ rfl (g + 1) #[.slice A5 k c5, .int .i64 l.p.seq, .int .i64 l.p.total, .int .i64 l.p.got, .slice B m d] rfl rfl _ _ y1 sizeL rfl (by simp [Value.oneCell']) ?_
        intro w7 hg7 hbut hbel)
      obtain ⟨r0, r1, r2, r3, r4⟩ := cells5 hg7
      have hgg := HG.out
      have hsz := HSZ.out
      have bW : Below w.heap.size w w7 := hbel _ _ (bthen T4.out HB.out) (by omega)
      have hrd := (HO.out.but (by omega) hbut).same
      have hare := ((HA.out.mono (T := Any) (fun _ _ => trivial)).below bW).filt (fun y => decide (y.q ≠ s))
      rw [← HR.out] at hare
      exact bodyPost_ret (v := .agg #[.slice A5 k c5, .int .i64 l.p.seq, .int .i64 l.p.total, .int .i64 l.p.got, .slice B m d]) (by simp [results, Try.results30, go_sem, r0, r1, r2, r3, r4]) rfl
        ⟨_, rfl, ⟨A5, k, c5, B, m, d, rfl, ⟨_, hrd, hare, Within.any _ _⟩, HBB.out.below bW, Within.any _ _⟩, bW⟩
end Go.Proofs.Ytmlmkkfieeaejaa
