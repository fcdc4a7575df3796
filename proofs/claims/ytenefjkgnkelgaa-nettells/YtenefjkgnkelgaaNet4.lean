/- What net's Dup and Give come to. -/
import Derived.Test.YtenefjkgnkelgaaNet3
set_option maxRecDepth 100000
namespace Go.Proofs.Ytenefjkgnkelgaa
open Go.RowKit
set_option linter.unusedVariables false

theorem IsFresh.below {base g : Nat} {T : TypeId} {ls : List Lt} {w w' : World} (h : IsFresh base T ls g w) (hb : Below w.heap.size w w') : IsFresh base T ls g w' := by
  obtain ⟨h0, us, h1, h2, h3⟩ := h
  have hlt : g < w.heap.size := by
    rcases Nat.lt_or_ge g w.heap.size with hlt | hge
    · exact hlt
    · rw [Array.getElem?_eq_none hge] at h1; cases h1
  exact ⟨h0, us, (hb.block g hlt).trans h1, h2.below hb, h3⟩
/-- No bytes lie in a letter's own cells. -/
theorem not_letter {w : World} {r : Nat} {x y z : Value} {t : TypeId} {fr : Nat × Nat} (hr : w.heap[r]? = some (.cells #[x, y, z] t fr)) (hx : ∀ k, x ≠ .int .u8 k) (hy : ∀ k, y ≠ .int .u8 k) (hz : ∀ k, z ≠ .int .u8 k)
    {A : Option Addr} {n c : Nat} {l : List UInt8} (h : Rd w A n c l) : 0 < n → ∀ b o, A = some ⟨b, o, none⟩ → b ≠ r := by
  intro h0 b o hA e
  subst e
  obtain ⟨b', o', hA', hc⟩ := h.2.2.2.2 h0
  rw [hA] at hA'
  injection hA' with hA'
  injection hA' with e1 e2
  subst e1; subst e2
  have hl : 0 < l.length := by rw [h.1]; exact h0
  have := hc 0 _ (List.getElem?_eq_getElem hl)
  rw [cell_of_row _ b _ _ t _ hr, Nat.add_zero] at this
  match o, this with
  | 0, this => exact hx _ (by simpa using this)
  | 1, this => exact hy _ (by simpa using this)
  | 2, this => exact hz _ (by simpa using this)
  | o + 3, this => simp at this
theorem IsFresh.but {base g r : Nat} {T : TypeId} {ls : List Lt} {w w' : World} {p : Int} {A : Option Addr} {n c : Nat} {s : Bool} {t : TypeId} {fr : Nat × Nat} (h : IsFresh base T ls g w) (hr : w.heap[r]? = some (.cells #[.int .i64 p, .slice A n c, .bool s] t fr)) (hrg : g ≠ r) (hb : But r w w') : IsFresh base T ls g w' := by
  obtain ⟨h0, us, h1, h2, h3⟩ := h
  refine ⟨h0, us, (hb.2 g hrg).trans h1, ⟨h2.1, fun i t x e1 e2 => ?_⟩, h3⟩
  have hi := h2.2 i t x e1 e2
  exact ⟨hi.1, hi.2.1, hi.2.2.but' (not_letter hr (fun k e => by cases e) (fun k e => by cases e) (fun k e => by cases e) hi.2.2) hb⟩
theorem Rd.butL {r : Nat} {w w' : World} {p : Int} {A : Option Addr} {n c : Nat} {s : Bool} {t : TypeId} {fr : Nat × Nat} {B : Option Addr} {m d : Nat} {l : List UInt8} (h : Rd w B m d l) (hr : w.heap[r]? = some (.cells #[.int .i64 p, .slice A n c, .bool s] t fr)) (hb : But r w w') : Rd w' B m d l :=
  h.but' (not_letter hr (fun k e => by cases e) (fun k e => by cases e) (fun k e => by cases e) h) hb

theorem drop_take1 {α : Type} {l : List α} {k : Nat} {x : α} (h : l[k]? = some x) : (l.drop k).take 1 = [x] := by
  have hk : k < l.length := by
    rcases Nat.lt_or_ge k l.length with h1 | h1
    · exact h1
    · rw [List.getElem?_eq_none h1] at h; cases h
  rw [List.drop_eq_getElem_cons hk]
  rw [List.getElem?_eq_getElem hk] at h
  injection h with h
  simp [h]

set_option maxHeartbeats 1000000 in
theorem dup_in (b o n c : Nat) (ls : List Lt) (k : Nat) (x : Lt) (w : World) (h : RdL w (some ⟨b, o, none⟩) n c ls) (hs : Small ls) (h1 : ls.length < 65536) (hk : k < n) (hx : ls[k]? = some x) :
    Calls Try.prog 15 #[.slice (some ⟨b, o, none⟩) n c, .int .i64 (k : Int)] w (FreshC w 29 (ls ++ [x]) 0) := by
  have hle := h.le
  have hs1 := h.size
  have q : decide (0 ≤ (k : Int) ∧ (k : Int) < (n : Int)) = true := by simp; omega
  have hh := fun w => has_is (some ⟨b, o, none⟩) n c k w hle
  rw [q] at hh
  clear q
  have hcap := h.cap
  have hcle := h.cle
  have hck : ¬ c = k := by omega
  have hck' : ¬ k = c := by omega
  have hk0 : (0 : Int) ≤ (k : Int) := by omega
  have hk1 : (k : Int) ≤ (k : Int) + 1 := by omega
  have hk2 : (k : Int) + 1 ≤ (c : Int) := by omega
  have hkd : k + 1 - k = 1 := by omega
  have hwn : ((k : Int) + 1).toNat = k + 1 := by omega
  have hD := (h.drop (k := k) (by omega)).take (k := 1) (by omega)
  rw [drop_take1 hx] at hD
  have hf := fresh2 (some ⟨b, o, none⟩) n c ls (some ⟨b, o + k * 3, none⟩) 1 (c - k) [x] (w.alloc (.cells #[.slice (some ⟨b, o, none⟩) n c, .slice (some ⟨b, o + k * 3, none⟩) 1 (c - k)] 22)) _ (rows2 _ _ _ _) (h.alloc _) (hD.alloc _) (hs.snoc h1 (hs.2 x (List.mem_of_getElem? hx)))
  have HX := hidT hx
  clear hx hD
  go_enter Try.func15, Try.ntmps15
  go_wp2_with fail
  with_reducible refine (hh _).mono ?_
  rintro e w1 ⟨rfl, rfl⟩
  clear hh
  go_wp2_with fail
  with_reducible refine hf.mono ?_
  rintro e w2 ⟨g, N, hN, rfl, hg, hb1⟩
  have HN := hidT hN
  clear hN hf
  have hb0 : Below w.heap.size w w2 := bthen ((Below.refl _ w).alloc (Nat.le_refl _) _) hb1
  go_wp2
  go_ret2
  exact ⟨g, N, HN.out, rfl, hg.mono (by rw [size_alloc]; omega), hb0⟩
theorem dup_out (A : Option Addr) (n c : Nat) (ls : List Lt) (i : Int) (w : World) (h : RdL w A n c ls) (hs : Small ls) (hi : ¬ (0 ≤ i ∧ i < n)) :
    Calls Try.prog 15 #[.slice A n c, .int .i64 i] w (FreshC w 29 ls 7) := by
  have hle := h.le
  have q : decide (0 ≤ i ∧ i < (n : Int)) = false := by simpa using hi
  have hh := fun w => has_is A n c i w hle
  rw [q] at hh
  clear q hi
  have hf := fresh1 A n c ls (w.alloc (.cells #[.slice A n c] 22)) _ (rows1 _ _ _) (h.alloc _) hs
  go_enter Try.func15, Try.ntmps15
  go_wp2_with fail
  with_reducible refine (hh _).mono ?_
  rintro e w1 ⟨rfl, rfl⟩
  go_wp2_with fail
  with_reducible refine hf.mono ?_
  rintro e w1 ⟨g, N, hN, rfl, hg, hb1⟩
  have HN := hidT hN
  clear hN
  have hb0 : Below w.heap.size w w1 := bthen ((Below.refl _ w).alloc (Nat.le_refl _) _) hb1
  clear hf hh
  go_wp2
  go_ret2
  exact ⟨g, N, HN.out, rfl, hg.mono (by simp only [size_alloc]; omega), hb0⟩

/-- A letter, a row, and a code. -/
def FreshG (w : World) (T : TypeId) (x : Lt) (ls : List Lt) (code : Int) (e : Ending) (w' : World) : Prop :=
  ∃ A n c g k, ls.length = k ∧ e = .returned (.tuple #[.agg #[.int .i64 x.to, .slice A n c, .bool x.sp], .slice (some ⟨g, 0, none⟩) k k, .int .i64 code]) ∧ Rd w' A n c x.b ∧ IsFresh w.heap.size T ls g w' ∧ Below w.heap.size w w'
theorem cells3g {w : World} {g : Nat} {a0 a1 a2 : Value} {t : TypeId} (h : w.heap[g]? = some (.cells #[a0, a1, a2] t (0, 0))) : w.cell? ⟨g, 0, none⟩ = some a0 ∧ w.cell? ⟨g, 1, none⟩ = some a1 ∧ w.cell? ⟨g, 2, none⟩ = some a2 :=
  ⟨cell_at h 0 rfl, cell_at h 1 rfl, cell_at h 2 rfl⟩
theorem all3 {a0 a1 a2 : Value} (h0 : a0.oneCell' = true) (h1 : a1.oneCell' = true) (h2 : a2.oneCell' = true) : (#[a0, a1, a2] : Array Value).all (·.oneCell') = true := by simp [h0, h1, h2]

set_option maxHeartbeats 1000000 in
theorem give_out (A : Option Addr) (n c : Nat) (ls : List Lt) (i : Int) (w : World) (h : RdL w A n c ls) (hs : Small ls) (hi : ¬ (0 ≤ i ∧ i < n)) :
    Calls Try.prog 11 #[.slice A n c, .int .i64 i] w (FreshG w 29 ⟨0, [], false⟩ ls 7) := by
  have hd := drop_any A n c ls i (w.alloc (.cells #[.int .i64 0, .slice none 0 0, .bool false] 29)) (h.alloc _) hs
  rw [if_neg hi, if_neg hi] at hd
  have hg0 := alloc_at w (.cells #[.int .i64 0, .slice none 0 0, .bool false] 29) _ rfl
  have hgs : w.heap.size < (w.alloc (.cells #[.int .i64 0, .slice none 0 0, .bool false] 29)).heap.size := by rw [size_alloc]; omega
  clear hi
  go_enter Try.func11, Try.ntmps11
  go_wp2_with fail
  with_reducible refine hd.mono ?_
  rintro e w1 ⟨g, N, hN, rfl, hg, hb1⟩
  have HN := hidT hN
  have hb0 : Below w.heap.size w w1 := bthen ((Below.refl _ w).alloc (Nat.le_refl _) _) hb1
  have hg1 := (hb1.block _ hgs).trans hg0
  have hne : g ≠ w.heap.size := by have := hg.1; omega
  have hgm := hg.mono (a := w.heap.size) (by omega)
  have HGM := hidT hgm
  clear hd hN hgm hg hg0 hgs
  go_wp2_with (first
    | (refine wpList_stI rfl 29 (.tmp 4) (.tmp 17) rfl w.heap.size #[.int .i64 0, .slice none 0 0, .bool false] rfl rfl _ _ hg1 infoL3 rfl (all3 rfl rfl rfl) ?_
       intro w2 hh2 hbut hbel))
  obtain ⟨c0, c1, c2⟩ := cells3g hh2
  refine bodyPost_ret (v := .tuple #[.agg #[.int .i64 0, .slice none 0 0, .bool false], .slice (some ⟨g, 0, none⟩) N N, .int .i64 7]) (by simp [results, Try.results11, go_sem, c0, c1, c2]) rfl ?_
  exact ⟨none, 0, 0, g, N, HN.out, rfl, Rd.nil_ _, (HGM.out.but hg1 hne hbut), hbel _ _ hb0 (Nat.le_refl _)⟩
theorem IsFresh.one {base g : Nat} {T : TypeId} {x : Lt} {w : World} (h : IsFresh base T [x] g w) : ∃ A n c, w.heap[g]? = some (.cells #[.int .i64 x.to, .slice A n c, .bool x.sp] T (0, 0)) ∧ Rd w A n c x.b := by
  obtain ⟨h0, us, h1, h2, h3⟩ := h
  match us, h2.1, h1, h2 with
  | [t], _, h1, h2 =>
    have hi := h2.2 0 t x rfl rfl
    refine ⟨t.A, t.n, t.c, ?_, hi.2.2⟩
    rw [h1, ← hi.1, ← hi.2.1]
    rfl

set_option maxHeartbeats 1000000 in
theorem give_in (b o n c : Nat) (ls : List Lt) (k : Nat) (x : Lt) (w : World) (h : RdL w (some ⟨b, o, none⟩) n c ls) (hs : Small ls) (hk : k < n) (hx : ls[k]? = some x) :
    Calls Try.prog 11 #[.slice (some ⟨b, o, none⟩) n c, .int .i64 (k : Int)] w (FreshG w 29 x (ls.take k ++ ls.drop (k + 1)) 0) := by
  have hd := drop_any (some ⟨b, o, none⟩) n c ls k (w.alloc (.cells #[.int .i64 0, .slice none 0 0, .bool false] 29)) (h.alloc _) hs
  rw [if_pos (by omega), if_pos (by omega), Int.toNat_natCast] at hd
  have hg0 := alloc_at w (.cells #[.int .i64 0, .slice none 0 0, .bool false] 29) _ rfl
  have hgs : w.heap.size < (w.alloc (.cells #[.int .i64 0, .slice none 0 0, .bool false] 29)).heap.size := by rw [size_alloc]; omega
  have hcap := h.cap
  have hcle := h.cle
  have hck : ¬ c = k := by omega
  have hck' : ¬ k = c := by omega
  have hk0 : (0 : Int) ≤ (k : Int) := by omega
  have hk1 : (k : Int) ≤ (k : Int) + 1 := by omega
  have hk2 : (k : Int) + 1 ≤ (c : Int) := by omega
  have hkd : k + 1 - k = 1 := by omega
  have hwn : ((k : Int) + 1).toNat = k + 1 := by omega
  have hD := (h.drop (k := k) (by omega)).take (k := 1) (by omega)
  rw [drop_take1 hx] at hD
  have hxb := hs.2 x (List.mem_of_getElem? hx)
  have HX := hidT hx
  clear hx
  go_enter Try.func11, Try.ntmps11
  go_wp2_with fail
  with_reducible refine hd.mono ?_
  rintro e w1 ⟨g, N, hN, rfl, hg, hb1⟩
  have HN := hidT hN
  have hb0 : Below w.heap.size w w1 := bthen ((Below.refl _ w).alloc (Nat.le_refl _) _) hb1
  have hg1 := (hb1.block _ hgs).trans hg0
  have hne : g ≠ w.heap.size := by have := hg.1; omega
  have hf := fresh1 (some ⟨b, o + k * 3, none⟩) 1 (c - k) [x] (w1.alloc (.cells #[.slice (some ⟨b, o + k * 3, none⟩) 1 (c - k)] 22)) _ (rows1 _ _ _) ((hD.below hb0).alloc _) (Small.one hxb)
  have hgm := hg.mono (a := w.heap.size) (by omega)
  have hr1 : w.heap.size < w1.heap.size := Nat.lt_of_lt_of_le hgs hb1.size
  clear hd hN hg hg0 hgs hb1
  go_wp2_with fail
  with_reducible refine hf.mono ?_
  rintro e w2 ⟨g2, N2, hN2, rfl, hg2, hb2⟩
  obtain rfl : 1 = N2 := hN2
  have hba : Below w1.heap.size w1 w2 := bthen ((Below.refl _ w1).alloc (Nat.le_refl _) _) hb2
  have HGM := hidT (hgm.below hba)
  have hb3 := bthen hb0 hba
  have hr2 := (hba.block _ hr1).trans hg1
  obtain ⟨A2, n2, c2, hh2, hrd⟩ := hg2.one
  obtain ⟨d0, d1, d2⟩ := cells3g hh2
  clear hf hgm hg1 hba hb2 hb0 hh2 hg2
  go_wp2_with (first
    | (refine wpList_stI rfl 29 (.tmp 4) (.tmp 28) rfl w.heap.size #[.int .i64 x.to, .slice A2 n2 c2, .bool x.sp] rfl rfl _ _ hr2 infoL3 rfl (all3 rfl rfl rfl) ?_
       intro w3 hh3 hbut hbel))
  obtain ⟨c0, c1, c2'⟩ := cells3g hh3
  refine bodyPost_ret (v := .tuple #[.agg #[.int .i64 x.to, .slice A2 n2 c2, .bool x.sp], .slice (some ⟨g, 0, none⟩) N N, .int .i64 0]) (by simp [results, Try.results11, go_sem, c0, c1, c2']) rfl ?_
  exact ⟨A2, n2, c2, g, N, HN.out, rfl, hrd.butL hr2 hbut, HGM.out.but hr2 hne hbut, hbel _ _ hb3 (Nat.le_refl _)⟩
end Go.Proofs.Ytenefjkgnkelgaa
