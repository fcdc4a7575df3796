/- The law NetGives, walked. -/
import Derived.Test.YtenefjkgnkelgaaNetLaw
import Derived.Test.YtenefjkgnkelgaaNetOpen
set_option maxRecDepth 100000
namespace Go.Proofs.Ytenefjkgnkelgaa
open Go.RowKit
set_option linter.unusedVariables false

/-- A row of bytes in memory. -/
structure Bw where
  A : Option Addr
  n : Nat
  c : Nat
  b : List UInt8
/-- Rows of bytes. -/
def RdB (w : World) (A : Option Addr) (n c : Nat) (rs : List Bw) : Prop := RdV w A n c (rs.map fun r => .slice r.A r.n r.c) ∧ ∀ r ∈ rs, Rd w r.A r.n r.c r.b
theorem RdB.size {w : World} {A : Option Addr} {n c : Nat} {rs : List Bw} (h : RdB w A n c rs) : rs.length = n := by have := h.1.1; simpa using this
theorem RdB.at_ {w : World} {A : Option Addr} {n c : Nat} {rs : List Bw} (h : RdB w A n c rs) {k : Nat} (hk : k < n) : ∃ b o r, A = some ⟨b, o, none⟩ ∧ rs[k]? = some r ∧ Rd w r.A r.n r.c r.b ∧ ∀ w', Below w.heap.size w w' → w'.cell? ⟨b, o + k, none⟩ = some (.slice r.A r.n r.c) := by
  obtain ⟨b, o, u, hA, hu, hc⟩ := h.1.at_ hk
  rw [List.getElem?_map, Option.map_eq_some_iff] at hu
  obtain ⟨r, hr, rfl⟩ := hu
  exact ⟨b, o, r, hA, hr, h.2 r (List.mem_of_getElem? hr), fun w' hb => (hb.cell (World.block_lt_of_cell? _ _ hc)).trans hc⟩
theorem Tr.byteRows {w : World} {cs : List Value} (h : Tr Try.prog w 51 cs) : ∃ A n c rs, cs = [.slice A n c] ∧ RdB w A n c rs := by
  obtain ⟨A, n, c, rfl, hn, hc, hA, hE⟩ := h.slice Try.underlying51 (k := 1) (by kernel_rfl) (by omega)
  by_cases h0 : 0 < n
  · obtain ⟨b, o, rfl, hE2⟩ := hE h0
    obtain ⟨l, hl, hF⟩ := list_of (n := n) (fun i (r : Bw) => Rd w r.A r.n r.c r.b ∧ w.cell? ⟨b, o + i, none⟩ = some (.slice r.A r.n r.c)) (fun i hi => by
      obtain ⟨ys, _, hT, hc⟩ := hE2 i hi
      obtain ⟨A, m, d, bb, rfl, hr⟩ := hT.bytes Try.underlying23 Try.underlying5 (by kernel_rfl)
      have := hc 0 _ rfl
      rw [Nat.mul_one, Nat.add_zero] at this
      exact ⟨⟨A, m, d, bb⟩, hr, this⟩)
    refine ⟨some ⟨b, o, none⟩, n, c, l, rfl, ⟨by simpa using hl, hn, hc, (fun h => by cases h), fun _ => ⟨b, o, rfl, fun i u hu => ?_⟩⟩, fun r hr => ?_⟩
    · rw [List.getElem?_map, Option.map_eq_some_iff] at hu
      obtain ⟨r, hr, rfl⟩ := hu
      exact (hF i r hr).2
    · obtain ⟨i, hi⟩ := List.getElem?_of_mem hr
      exact (hF i r hi).1
  · have hn0 : n = 0 := by omega
    subst hn0
    exact ⟨A, 0, c, [], rfl, ⟨rfl, hn, hc, hA, fun h => absurd h (by omega)⟩, fun r hr => by cases hr⟩
theorem byteRows_open {W : World} {r : Reach} {b0 : Nat} {v : Value} (o : Value.okWide Try.prog W r b0 51 v) (h : Tr Try.prog W 51 v.cells.toList) : ∃ A n c rs, v = .slice A n c ∧ RdB W A n c rs := by
  obtain ⟨a, m, c, rfl⟩ := Go.WideShapes.okWide_slice Try.underlying51 o
  obtain ⟨A, m', d, ls, ha, hr⟩ := h.byteRows
  obtain ⟨rfl, rfl, rfl⟩ : a = A ∧ m = m' ∧ c = d := by simpa [Value.cells] using ha
  exact ⟨a, m, c, ls, rfl, hr⟩

/-- The letters that the law puts. -/
def gl (rs : List Bw) (i : Nat) : Lt := ⟨(i : Int) % 3, ((rs[i]?).map (·.b)).getD [], false⟩
def gls (rs : List Bw) (i n : Nat) : List Lt := (List.range' i n).map (gl rs)
theorem gls_length (rs : List Bw) (i n : Nat) : (gls rs i n).length = n := by simp [gls]
theorem gls_snoc (rs : List Bw) (n : Nat) : gls rs 0 (n + 1) = gls rs 0 n ++ [gl rs n] := by
  unfold gls
  rw [List.range'_1_concat, List.map_append]
  simp
theorem gls_cons (rs : List Bw) (i n : Nat) : gls rs i (n + 1) = gl rs i :: gls rs (i + 1) n := by
  unfold gls
  rw [List.range'_succ]
  rfl
theorem gl_b {rs : List Bw} {i : Nat} {r : Bw} (h : rs[i]? = some r) : (gl rs i).b = r.b := by unfold gl; rw [h]; rfl
theorem gls_small {rs : List Bw} (h : ∀ r ∈ rs, r.b.length ≤ 100) (i n : Nat) (hn : n ≤ 41) : Small (gls rs i n) := by
  refine ⟨by rw [gls_length]; omega, fun x hx => ?_⟩
  unfold gls at hx
  obtain ⟨j, _, rfl⟩ := List.mem_map.1 hx
  unfold gl
  cases hr : rs[j]? with
  | none => simp
  | some r => have := h r (List.mem_of_getElem? hr); simp; omega
/-- As far as they were put. -/
def upto (rs : List Bw) (i : Nat) : Prop := ∀ (j : Nat) (r : Bw), j < i → rs[j]? = some r → r.b.length ≤ 100
theorem gls_small' {rs : List Bw} {n : Nat} (h : upto rs n) (hn : n ≤ 41) : Small (gls rs 0 n) := by
  refine ⟨by rw [gls_length]; omega, fun x hx => ?_⟩
  unfold gls at hx
  obtain ⟨j, hj, rfl⟩ := List.mem_map.1 hx
  rw [List.mem_range'_1] at hj
  unfold gl
  cases hr : rs[j]? with
  | none => simp
  | some r => have := h j r (by omega) hr; simp; omega

set_option maxRecDepth 100000 in
set_option maxHeartbeats 4000000 in
theorem gives_in (A : Option Addr) (n c : Nat) (rs : List Bw) (last : Bool) (w : World) (h : RdB w A n c rs) (hn40 : n ≤ 40) :
    Calls Try.prog 7 #[.slice A n c, .bool last] w (Yes w) := by
  have hsz := h.size
  have hq : decide ((40 : Int) < (n : Int)) = false := by simp; omega
  have H := hidT h
  have HSZ := hidT hsz
  clear h hsz
  go_enter Try.func7, Try.ntmps7
  go_wp2_with fail
  with_reducible refine (nshown_any _).mono ?_
  rintro e w1 ⟨rfl, hb1⟩
  go_wp2
  go_loopw [6, 7] (fun v i wr => ∃ (j : Nat) (A' : Option Addr) (c' : Nat), j ≤ n ∧ i = .int .i64 j ∧ Hid (upto rs j) ∧ v = .slice A' j c' ∧ RdL wr A' j c' (gls rs 0 j) ∧ Below w.heap.size w wr) (fun _ i _ => n - (intOf i).toNat)
  case atStart => exact ⟨0, none, 0, Nat.zero_le _, rfl, fun j r hj _ => absurd hj (by omega), rfl, RdL.empty _ _, hb1⟩
  case round =>
    obtain ⟨j, A', c', hj, rfl, HU, rfl, hr, hbel⟩ := hrel
    by_cases hjn : j < n
    · obtain ⟨b, o, r, rfl, hrr, hrd, hc⟩ := H.out.at_ hjn
      have k1 := hc wr hbel
      have hrd1 := hrd.below hbel
      have hrl := hrd.1
      have q1 : (0 : Int) ≤ (j : Int) := by omega
      have q2 : (j : Int) < (n : Int) := by omega
      clear hc
      by_cases h100 : r.n ≤ 100
      · have q3 : decide ((100 : Int) < (r.n : Int)) = false := by simp; omega
        have hp := put_any A' j c' (gls rs 0 j) ((j : Int) % 3) r.A r.n r.c r.b wr hr hrd1 (gls_small' HU.out (by omega)) (by rw [gls_length]; omega) (by omega)
        have e : gls rs 0 j ++ [⟨(j : Int) % 3, r.b, false⟩] = gls rs 0 (j + 1) := by
          rw [gls_snoc]
          unfold gl
          rw [hrr]
          rfl
        rw [e] at hp
        have HU2 : Hid (upto rs (j + 1)) := by
          intro i s hi hs
          by_cases hij : i < j
          · exact HU.out i s hij hs
          · obtain rfl : j = i := by omega
            rw [hrr] at hs
            injection hs with hs
            subst hs
            omega
        clear e hrr hrd hrd1 hrl hr
        go_wp2_with fail
        with_reducible refine hp.mono ?_
        rintro e w3 ⟨g, N, hN, rfl, hf3, hb3⟩
        obtain rfl : j + 1 = N := by rw [gls_length] at hN; exact hN
        have HR3 := hidT (hf3.rd hN (by omega))
        have hb03 := bthen hbel hb3
        clear hp hN hf3
        go_wp2
        exact ⟨⟨j + 1, _, _, by omega, by go_num, HU2, rfl, HR3.out, hb03⟩, by simp [intOf]; omega⟩
      · have q3 : decide ((100 : Int) < (r.n : Int)) = true := by simp; omega
        clear hrr hrd hrd1 hrl hr
        go_wp2
        go_ret
        exact ⟨rfl, hbel⟩
    · obtain rfl : n = j := by omega
      have HS : Hid (∀ i p, p ≤ 41 → Small (gls rs i p)) := fun i p hp => gls_small (fun r hr => by
        obtain ⟨k, hk⟩ := List.getElem?_of_mem hr
        exact HU.out k r (by have := HSZ.out; have := (List.getElem?_eq_some_iff.1 hk).1; omega) hk) i p hp
      cases last
      · go_wp2
        go_loopw [6, 8] (fun v i wx => ∃ (j p : Nat) (A' : Option Addr) (c' : Nat), j ≤ n ∧ i = .int .i64 j ∧ Hid (p + j = n) ∧ v = .slice A' p c' ∧ RdL wx A' p c' (gls rs j p) ∧ Below w.heap.size w wx) (fun _ i _ => n - (intOf i).toNat)
        case atStart => exact ⟨0, n, A', c', Nat.zero_le _, rfl, rfl, rfl, hr, hbel⟩
        case round =>
          clear hr hbel
          obtain ⟨j, p, A', c', hj, rfl, HP, rfl, hr, hbel⟩ := hrel
          by_cases hjn : j < n
          · obtain ⟨p', hk⟩ : ∃ p', p = p' + 1 := ⟨p - 1, by have := HP.out; omega⟩
            have hp0 := HP.out
            obtain ⟨b', o', rfl⟩ := hr.addr (by omega)
            obtain ⟨b, o, r, rfl, hrr, hrd, hc⟩ := H.out.at_ hjn
            have hg := give_in b' o' p c' _ 0 (gl rs j) wr hr (HS.out _ _ (by omega)) (by omega) (by rw [hk, gls_cons]; rfl)
            rw [hk, gls_cons, List.take_zero, List.nil_append, List.drop_succ_cons, List.drop_zero, show ((0 : Nat) : Int) = 0 from rfl, ← hk] at hg
            have hgb : (gl rs j).b = r.b := gl_b hrr
            have hgs : (gl rs j).sp = false := rfl
            have hgt : (gl rs j).to = (j : Int) % 3 := rfl
            have q3 : IntKind.i64.wrap ((p : Int) - 1) = (p' : Int) := by
              rw [show (p : Int) - 1 = (p' : Int) from by omega]
              exact IntWalk.i64_in _ (by omega)
            have HK := hidT hk
            have hk41 : p' ≤ 40 := by omega
            clear hk hp0
            clear hrr hr
            go_wp2_with fail
            with_reducible refine hg.mono ?_
            rintro e w3 ⟨A3, n3, c3, g, N, hN, rfl, hr3, hf3, hb3⟩
            obtain rfl : p' = N := by rw [gls_length] at hN; exact hN
            rw [hgb] at hr3
            rw [hgt, hgs]
            have HR3 := hidT (hf3.rd hN (by omega))
            have hb03 := bthen hbel hb3
            obtain ⟨W, hW⟩ : ∃ W, w3.alloc (.cells #[.int .i64 ((j : Int) % 3), .slice A3 n3 c3, .bool false] 29) = W := ⟨_, rfl⟩
            have hbW : Below w3.heap.size w3 W := by rw [← hW]; exact nkeep_alloc (Below.refl _ _) _
            have gW : W.heap[w3.heap.size]? = some (.cells #[.int .i64 ((j : Int) % 3), .slice A3 n3 c3, .bool false] 29 (0, 0)) := by rw [← hW]; exact alloc_at _ _ _ rfl
            have hb0W := bthen hb03 hbW
            have K1 := fun w' (hb : Below W.heap.size W w') => hc w' (bthen hb0W hb)
            have K2 := fun w' (hb : Below W.heap.size W w') => (cells3g ((hb.block _ (blk_lt gW)).trans gW)).1
            have K3 := fun w' (hb : Below W.heap.size W w') => (cells3g ((hb.block _ (blk_lt gW)).trans gW)).2.1
            have s1 := fun w' (hb : Below W.heap.size W w') => strs hr3 w' (bthen hbW hb)
            have s2 := fun w' (hb : Below W.heap.size W w') => strs hrd w' (bthen hb0W hb)
            have q1 : (0 : Int) ≤ (j : Int) := by omega
            have q2 : (j : Int) < (n : Int) := by omega
            have q4 : (j : Int).tmod 3 = (j : Int) % 3 := Int.tmod_eq_emod_of_nonneg (by omega)
            have HW := hidT hW
            have HGW := hidT gW
            clear hg hN hf3 hc hgb hgs hgt hr3 hrd hW gW
            go_wp2_with fail
            rw [HW.out]
            clear HW
            go_region_held (fun w' => Below W.heap.size W w') (first | exact (Below.refl _ _).drew | exact Below.refl _ _) (fail)
            all_goals go_wp2
            exact ⟨⟨j + 1, p', _, _, by omega, by go_num, by unfold Hid; have := HP.out; have := HK.out; omega, rfl, HR3.out.below (bthen hbW (Below.refl _ _).drew), bthen hb0W (Below.refl _ _).drew⟩, by simp [intOf]; omega⟩
          · obtain rfl : n = j := by omega
            obtain rfl : 0 = p := by have := HP.out; omega
            go_wp2
            go_ret
            exact ⟨rfl, hbel⟩
      · go_wp2
        go_loopw [6, 8] (fun v i wx => ∃ (j p : Nat) (A' : Option Addr) (c' : Nat), j ≤ n ∧ i = .int .i64 j ∧ Hid (p + j = n) ∧ v = .slice A' p c' ∧ RdL wx A' p c' (gls rs 0 p) ∧ Below w.heap.size w wx) (fun _ i _ => n - (intOf i).toNat)
        case atStart => exact ⟨0, n, A', c', Nat.zero_le _, rfl, rfl, rfl, hr, hbel⟩
        case round =>
          clear hr hbel
          obtain ⟨j, p, A', c', hj, rfl, HP, rfl, hr, hbel⟩ := hrel
          by_cases hjn : j < n
          · obtain ⟨k, hk⟩ : ∃ k, p = k + 1 := ⟨p - 1, by have := HP.out; omega⟩
            have hp0 := HP.out
            obtain ⟨b', o', rfl⟩ := hr.addr (by omega)
            obtain ⟨b, o, r, rfl, hrr, hrd, hc⟩ := H.out.at_ (k := k) (by omega)
            have hg := give_in b' o' p c' _ k (gl rs k) wr hr (HS.out _ _ (by omega)) (by omega) (by rw [hk, gls_snoc, List.getElem?_append_right (by rw [gls_length]; omega), gls_length, Nat.sub_self]; rfl)
            rw [hk, gls_snoc, List.take_left' (gls_length _ _ _), List.drop_of_length_le (by rw [List.length_append, gls_length]; simp), List.append_nil, ← hk] at hg
            have hgb : (gl rs k).b = r.b := gl_b hrr
            have hgs : (gl rs k).sp = false := rfl
            have hgt : (gl rs k).to = (k : Int) % 3 := rfl
            have e1 : (p : Int) - 1 = (k : Int) := by omega
            have e2 : (n : Int) - 1 - (j : Int) = (k : Int) := by omega
            have hk41 : k ≤ 40 := by omega
            have hk42 : k < n := by omega
            have HK := hidT hk
            have E1 := hidT e1
            have E2 := hidT e2
            clear hrr hr hk e1 e2
            have q5 : -9223372036854775808 ≤ (p : Int) - 1 := by omega
            have q6 : -9223372036854775808 ≤ (n : Int) - 1 := by omega
            go_wp2_with fail
            rw [E1.out, E2.out]
            with_reducible refine hg.mono ?_
            rintro e w3 ⟨A3, n3, c3, g, N, hN, rfl, hr3, hf3, hb3⟩
            obtain rfl : k = N := by rw [gls_length] at hN; exact hN
            rw [hgb] at hr3
            rw [hgt, hgs]
            have HR3 := hidT (hf3.rd hN (by omega))
            have hb03 := bthen hbel hb3
            obtain ⟨W, hW⟩ : ∃ W, w3.alloc (.cells #[.int .i64 ((k : Int) % 3), .slice A3 n3 c3, .bool false] 29) = W := ⟨_, rfl⟩
            have hbW : Below w3.heap.size w3 W := by rw [← hW]; exact nkeep_alloc (Below.refl _ _) _
            have gW : W.heap[w3.heap.size]? = some (.cells #[.int .i64 ((k : Int) % 3), .slice A3 n3 c3, .bool false] 29 (0, 0)) := by rw [← hW]; exact alloc_at _ _ _ rfl
            have hb0W := bthen hb03 hbW
            have K1 := fun w' (hb : Below W.heap.size W w') => hc w' (bthen hb0W hb)
            have K2 := fun w' (hb : Below W.heap.size W w') => (cells3g ((hb.block _ (blk_lt gW)).trans gW)).1
            have K3 := fun w' (hb : Below W.heap.size W w') => (cells3g ((hb.block _ (blk_lt gW)).trans gW)).2.1
            have s1 := fun w' (hb : Below W.heap.size W w') => strs hr3 w' (bthen hbW hb)
            have s2 := fun w' (hb : Below W.heap.size W w') => strs hrd w' (bthen hb0W hb)
            have q1 : (0 : Int) ≤ (k : Int) := by omega
            have q2 : (k : Int) < (n : Int) := by omega
            have q4 : (k : Int).tmod 3 = (k : Int) % 3 := Int.tmod_eq_emod_of_nonneg (by omega)
            have q3 : IntKind.i64.wrap ((p : Int) - 1) = (k : Int) := by
              rw [E1.out]
              exact IntWalk.i64_in _ (by omega)
            have HW := hidT hW
            have HGW := hidT gW
            clear hg hN hf3 hc hgb hgs hgt hr3 hrd hW gW
            go_wp2_with fail
            rw [HW.out]
            clear HW
            go_region_held (fun w' => Below W.heap.size W w') (first | exact (Below.refl _ _).drew | exact Below.refl _ _) (fail)
            all_goals go_wp2
            exact ⟨⟨j + 1, k, _, _, by omega, by go_num, by unfold Hid; have := HK.out; omega, rfl, HR3.out.below (bthen hbW (Below.refl _ _).drew), bthen hb0W (Below.refl _ _).drew⟩, by simp [intOf]; omega⟩
          · obtain rfl : n = j := by omega
            obtain rfl : 0 = p := by have := HP.out; omega
            go_wp2
            go_ret
            exact ⟨rfl, hbel⟩

set_option maxRecDepth 100000 in
set_option maxHeartbeats 1000000 in
theorem gives_any (A : Option Addr) (n c : Nat) (rs : List Bw) (last : Bool) (w : World) (h : RdB w A n c rs) :
    Calls Try.prog 7 #[.slice A n c, .bool last] w (Yes w) := by
  by_cases hn : n ≤ 40
  · exact gives_in A n c rs last w h hn
  · have hq : decide ((40 : Int) < (n : Int)) = true := by simp; omega
    go_enter Try.func7, Try.ntmps7
    go_wp2_with fail
    with_reducible refine (nshown_any _).mono ?_
    rintro e w1 ⟨rfl, hb1⟩
    go_wp2
    go_ret
    exact ⟨rfl, hb1⟩
end Go.Proofs.Ytenefjkgnkelgaa
