/- Rows of bytes in memory: what reads as such, what the call owns; a row that is cut at its beginning and appended to. -/
import Derived.Test.YtileinmcnilajaaCom
import Derived.Test.YtileinmcnilajaaHeap
import Derived.Test.YtileinmcnilajaaSlices
import Derived.ArgAppend
set_option maxRecDepth 100000
namespace Go.Proofs.Ytileinmcnilajaa
open Go.RowKit
set_option linter.unusedVariables false

/-- A row of bytes in memory. -/
structure Bw where
  A : Option Addr
  n : Nat
  c : Nat
  b : List UInt8
def Bw.val (r : Bw) : Value := .slice r.A r.n r.c
/-- Rows of bytes. -/
def RdB (w : World) (A : Option Addr) (n c : Nat) (rs : List Bw) : Prop := RdV w A n c (rs.map Bw.val) ∧ ∀ r ∈ rs, Rd w r.A r.n r.c r.b
theorem infoS : (Try.prog.info? 23).map (fun i => (i.zero, i.size, i.bytes)) = some (some (.slice none 0 0), 1, 24) := by kernel_rfl
theorem RdB.size {w : World} {A : Option Addr} {n c : Nat} {rs : List Bw} (h : RdB w A n c rs) : rs.length = n := by have := h.1.1; simpa using this
theorem RdB.le {w : World} {A : Option Addr} {n c : Nat} {rs : List Bw} (h : RdB w A n c rs) : n ≤ 9223372036854775807 := h.1.le
theorem RdB.cap {w : World} {A : Option Addr} {n c : Nat} {rs : List Bw} (h : RdB w A n c rs) : c ≤ 9223372036854775807 := by have := h.1.2.2.1; unfold maxLen at this; omega
theorem RdB.nil_ (w : World) : RdB w none 0 0 [] := ⟨RdV.nil_ w, fun _ h => by cases h⟩
theorem RdB.below {w w' : World} {A : Option Addr} {n c : Nat} {rs : List Bw} (h : RdB w A n c rs) (hb : Below w.heap.size w w') : RdB w' A n c rs := ⟨h.1.below hb, fun r hr => (h.2 r hr).below hb⟩
theorem RdB.at_ {w : World} {A : Option Addr} {n c : Nat} {rs : List Bw} (h : RdB w A n c rs) {k : Nat} (hk : k < n) : ∃ b o r, A = some ⟨b, o, none⟩ ∧ rs[k]? = some r ∧ Rd w r.A r.n r.c r.b ∧ ∀ w', Below w.heap.size w w' → w'.cell? ⟨b, o + k, none⟩ = some (.slice r.A r.n r.c) := by
  obtain ⟨b, o, u, hA, hu, hc⟩ := h.1.at_ hk
  rw [List.getElem?_map, Option.map_eq_some_iff] at hu
  obtain ⟨r, hr, rfl⟩ := hu
  exact ⟨b, o, r, hA, hr, h.2 r (List.mem_of_getElem? hr), fun w' hb => (hb.cell (World.block_lt_of_cell? _ _ hc)).trans hc⟩
theorem RdB.take {w : World} {A : Option Addr} {n c : Nat} {rs : List Bw} (h : RdB w A n c rs) {k : Nat} (hk : k ≤ n) : RdB w A k c (rs.take k) :=
  ⟨by have := h.1.take hk; rwa [← List.map_take] at this, fun r hr => h.2 r (List.mem_of_mem_take hr)⟩
/-- What is behind the first one. -/
theorem RdB.tail {w : World} {b o n c : Nat} {rs : List Bw} (h : RdB w (some ⟨b, o, none⟩) n c rs) (h1 : 1 ≤ n) (Q : Option Addr) (hQ : (if c = 1 then some ⟨b, o, none⟩ else some ⟨b, o + 1, none⟩) = Q) : RdB w Q (n - 1) (c - 1) (rs.drop 1) := by
  refine ⟨?_, fun r hr => h.2 r (List.mem_of_mem_drop hr)⟩
  have h2 := h.1.drop h1
  rw [← List.map_drop] at h2
  by_cases hc : c = 1
  · have hnc := h.1.2.1
    obtain rfl : n = 1 := by omega
    have e : rs.drop 1 = [] := List.eq_nil_of_length_eq_zero (by rw [List.length_drop, h.size])
    rw [e]
    rw [if_pos hc] at hQ
    subst hQ
    refine ⟨rfl, by omega, by have := h.1.2.2.1; omega, (fun h => by cases h), fun h0 => absurd h0 (by omega)⟩
  · rw [if_neg hc] at hQ
    subst hQ
    exact h2
theorem RdB.long {w : World} {A : Option Addr} {n c : Nat} {rs : List Bw} (h : RdB w A n c rs) {r : Bw} (hr : r ∈ rs) : r.b.length = r.n := (h.2 r hr).1
theorem take_snocB {rs : List Bw} {j : Nat} {r : Bw} (h : rs[j]? = some r) : (rs.map Bw.b).take (j + 1) = (rs.map Bw.b).take j ++ [r.b] := by
  rw [List.take_add_one, List.getElem?_map, h]
  rfl

/-- Messages that the call owns. -/
def OwnB (w : World) (base : Nat) (rs : List Bw) : Prop := ∀ r ∈ rs, Own w base 5 (Bw.val r) r.n r.b
theorem OwnB.later {w w' : World} {base : Nat} {rs : List Bw} (h : OwnB w base rs) (hb : Below w.heap.size w w') : OwnB w' base rs := fun r hr => (h r hr).later hb
theorem OwnB.mono {w : World} {base base' : Nat} {rs : List Bw} (h : OwnB w base rs) (hb : base' ≤ base) : OwnB w base' rs := fun r hr => (h r hr).mono hb
theorem OwnB.but {w w' : World} {base g : Nat} {rs : List Bw} (h : OwnB w base rs) (hg : g < base) (hb : But g w w') : OwnB w' base rs := fun r hr => (h r hr).but hg hb
theorem OwnB.snoc {w : World} {base : Nat} {rs : List Bw} {r : Bw} (h : OwnB w base rs) (hr : Own w base 5 (Bw.val r) r.n r.b) : OwnB w base (rs ++ [r]) := by
  intro x hx
  rcases List.mem_append.1 hx with hx | hx
  · exact h x hx
  · rw [List.mem_singleton] at hx
    subst hx
    exact hr
theorem OwnB.grown {w w' : World} {base base' k : Nat} {rs : List Bw} {v : Value} {l : List Value} (h : OwnB w base rs) (h' : OwnV w base' 23 v k l) (hg : w.grownBy w' v.ownBlock) : OwnB w' base rs := fun r hr => OwnV.grown (h r hr) h' (by decide) hg
theorem OwnB.rd {w : World} {base : Nat} {rs : List Bw} (h : OwnB w base rs) : ∀ r ∈ rs, Rd w r.A r.n r.c r.b := fun r hr => Own.same (h r hr)
theorem OwnV.rdb {w : World} {base n c : Nat} {A : Option Addr} {rs : List Bw} (h : OwnV w base 23 (.slice A n c) n (rs.map Bw.val)) (hb : OwnB w base rs) : RdB w A n c rs := ⟨OwnV.same h, hb.rd⟩
theorem OwnV.frozen {w : World} {base n g cap : Nat} {e : TypeId} {l : List Value} (h : OwnV w base e (.slice (some ⟨g, 0, none⟩) n cap) n l) (i : Nat) :
    w.frozen? ⟨g, i, none⟩ = false := World.ownsRow.frozenAt h i
theorem OwnV.cell {w : World} {base n g cap : Nat} {e : TypeId} {l : List Value} (h : OwnV w base e (.slice (some ⟨g, 0, none⟩) n cap) n l) {i : Nat} {x : Value} (hx : l[i]? = some x) :
    w.cell? ⟨g, i, none⟩ = some x := by
  have := World.ownsRow.cells (g := g) h rfl i _ hx
  rw [show (⟨g, 0, none⟩ : Addr).add i = ⟨g, i, none⟩ from by unfold Addr.add; split <;> simp_all] at this
  exact this
/-- What a call gives that makes rows of bytes of its own, and turns nothing that was. -/
def GivesR (w : World) (ls : List (List UInt8)) (e : Ending) (w' : World) : Prop :=
  ∃ A n c rs, e = .returned (.slice A n c) ∧ OwnV w' w.heap.size 23 (.slice A n c) n (rs.map Bw.val) ∧ OwnB w' w.heap.size rs ∧ rs.map Bw.b = ls ∧ Below w.heap.size w w'
theorem fillB {xs : List Bw} {n j : Nat} (hj : xs.length = j) (hjn : j < n) (r : Bw) (z : Value) : (xs.map Bw.val ++ List.replicate (n - j) z).set j r.val = (xs ++ [r]).map Bw.val ++ List.replicate (n - (j + 1)) z := by
  rw [List.set_append_right _ _ (by rw [List.length_map]; omega), List.length_map, hj, Nat.sub_self, show n - j = (n - (j + 1)) + 1 from by omega, List.replicate_succ, List.set_cons_zero, List.map_append, List.append_assoc]
  rfl

/-- A row that may begin behind its block's beginning. -/
def OwnO (w : World) (base : Nat) (e : TypeId) (v : Value) (n : Nat) (l : List Value) : Prop :=
  l.length = n ∧ ((v = .slice none 0 0 ∧ n = 0) ∨ ∃ g o cap cur, v = .slice (some ⟨g, o, none⟩) n cap ∧ base ≤ g ∧ w.heap[g]? = some (.cells cur e (0, 0)) ∧ n ≤ cap ∧ o + cap ≤ cur.size ∧ cap ≤ maxLen ∧ ∀ i u, l[i]? = some u → cur[o + i]? = some u)
theorem OwnO.nil_ (w : World) (base : Nat) (e : TypeId) : OwnO w base e (.slice none 0 0) 0 [] := ⟨rfl, .inl ⟨rfl, rfl⟩⟩
theorem OwnO.of {w : World} {base n : Nat} {e : TypeId} {v : Value} {l : List Value} (h : OwnV w base e v n l) : OwnO w base e v n l := by
  refine ⟨OwnV.size h, ?_⟩
  rcases h.2 with h2 | ⟨g, cap, cur, hv, hg, hh, hn, hm, hs, ht⟩
  · exact .inl h2
  · refine .inr ⟨g, 0, cap, cur, hv, hg, hh, hn, by omega, hm, fun i u hu => ?_⟩
    rw [← ht, List.getElem?_take] at hu
    split at hu
    · simpa using hu
    · cases hu
theorem OwnO.later {w w' : World} {base n : Nat} {e : TypeId} {v : Value} {l : List Value} (h : OwnO w base e v n l) (hb : Below w.heap.size w w') : OwnO w' base e v n l := by
  refine ⟨h.1, ?_⟩
  rcases h.2 with h2 | ⟨g, o, cap, cur, hv, hg, hh, r⟩
  · exact .inl h2
  · exact .inr ⟨g, o, cap, cur, hv, hg, keepH hh hb, r⟩
theorem OwnO.rd {w : World} {base n : Nat} {e : TypeId} {v : Value} {l : List Value} (h : OwnO w base e v n l) : ∃ A c, v = .slice A n c ∧ RdV w A n c l := by
  obtain ⟨hl, h2⟩ := h
  rcases h2 with ⟨rfl, rfl⟩ | ⟨g, o, cap, cur, rfl, hb, hh, hn, hs, hm, hc⟩
  · obtain rfl : l = [] := List.eq_nil_of_length_eq_zero hl
    exact ⟨none, 0, rfl, RdV.nil_ w⟩
  · refine ⟨_, cap, rfl, hl, hn, hm, (fun h => by cases h), fun _ => ⟨g, o, rfl, fun i u hu => ?_⟩⟩
    exact cell_at hh _ (hc i u hu)
theorem OwnO.same {w : World} {base n c : Nat} {e : TypeId} {A : Option Addr} {l : List Value} (h : OwnO w base e (.slice A n c) n l) : RdV w A n c l := by
  obtain ⟨A', c', e, hr⟩ := h.rd
  injection e with e1 _ e2
  subst e1; subst e2
  exact hr
/-- Its block is not one of the elder ones, and is there. -/
theorem OwnO.block {w : World} {base n : Nat} {e : TypeId} {v : Value} {l : List Value} (h : OwnO w base e v n l) : ∀ k, v.ownBlock = some k → base ≤ k ∧ k < w.heap.size := by
  intro k hk
  rcases h.2 with ⟨rfl, _⟩ | ⟨g, o, cap, cur, rfl, hb, hh, _⟩
  · simp [Value.ownBlock] at hk
  · simp [Value.ownBlock] at hk
    subst hk
    exact ⟨hb, blk_lt hh⟩
/-- Without its first one. -/
theorem OwnO.tail {w : World} {base b o n c : Nat} {e : TypeId} {u : Value} {l : List Value} (h : OwnO w base e (.slice (some ⟨b, o, none⟩) n c) n (u :: l)) (Q : Option Addr) (hQ : (if c = 1 then some ⟨b, o, none⟩ else some ⟨b, o + 1, none⟩) = Q) : OwnO w base e (.slice Q (n - 1) (c - 1)) (n - 1) l := by
  obtain ⟨hl, h2⟩ := h
  simp only [List.length_cons] at hl
  refine ⟨by omega, ?_⟩
  rcases h2 with ⟨h2, _⟩ | ⟨g, o', cap, cur, hv, hb, hh, hn, hs, hm, hc⟩
  · cases h2
  · injection hv with hv hv2 hv3
    injection hv with hv
    injection hv with hv hv'
    subst hv hv' hv3
    by_cases hc1 : c = 1
    · rw [if_pos hc1] at hQ
      subst hQ
      obtain rfl : l = [] := List.eq_nil_of_length_eq_zero (by omega)
      exact .inr ⟨b, o, c - 1, cur, rfl, hb, hh, by omega, by omega, by omega, fun i x hx => by simp at hx⟩
    · rw [if_neg hc1] at hQ
      subst hQ
      refine .inr ⟨b, o + 1, c - 1, cur, rfl, hb, hh, by omega, by omega, by omega, fun i x hx => ?_⟩
      have := hc (i + 1) x hx
      rw [← this]
      congr 1
      omega
/-- append of one to it. -/
theorem run_appO {P : Program} (w : World) (base : Nat) (t ty e : TypeId) (i : TypeInfo) (ht : P.underlying t = some (.slice e)) (hi : P.info? e = some i) (z : Value) (hz : i.zero = some z)
    (hsize : i.size = 1) (bytes : Nat) (hby : i.bytes = bytes) (hzc : z.cells.size = 1) (v : Value) (n : Nat) (xs : List Value) (hown : OwnO w base e v n xs)
    (ad : Addr) (u : Value) (hr : w.cell? ad = some u) (h1 : u.oneCell' = true) (h63 : n + 1 ≤ 1099511627776) (hb128 : bytes ≤ 128) (hbase : base ≤ w.heap.size) :
    ∃ v' w', (Builtin.append_ #[t, t] ty #[v, .slice (some ad) 1 1]).run P w = .ok v' w' ∧ OwnO w' base e v' (n + 1) (xs ++ [u]) ∧ w.grownBy w' v.ownBlock := by
  have hbytes : (n + 1) * bytes ≤ 140737488355328 := Nat.le_trans (Nat.mul_le_mul h63 hb128) (by decide)
  have hnews : ∀ j x, [u][j]? = some x → w.cell? (ad.add j) = some x := by
    intro j x hx
    cases j with
    | zero => simp at hx; subst hx; simpa [Addr.add] using hr
    | succ j => simp at hx
  have h1' : ∀ x ∈ [u], x.oneCell' = true := by
    intro x hx
    rw [List.mem_singleton] at hx
    subst hx
    exact h1
  obtain ⟨hl, h2⟩ := hown
  rcases h2 with ⟨rfl, rfl⟩ | ⟨g, o, cap, cur, rfl, hb, hh, hn, hs, hm, hc⟩
  · obtain rfl : xs = [] := List.eq_nil_of_length_eq_zero hl
    obtain ⟨v', w', hrun, h2, h3, _⟩ := run_append_own_at (P := P) w base t ty e i z 1 bytes ht hi hz hsize hby hzc (by omega) _ 0 [] (World.ownsRow_nil w base e 1) ad 1 1 [u] rfl hnews h1'
      (by simp only [maxLen]; omega) hbytes hbase
    exact ⟨v', w', hrun, OwnO.of h2, h3⟩
  · by_cases hroom : n + 1 ≤ cap
    · have hrun := run_append_room_cells (P := P) w t ty e i ht hi g o n cap ad 1 1 [u] (by rw [hsize]; rfl) hnews h1' hroom
        (by intro j hj
            rw [hsize]
            simp only [List.length_singleton] at hj
            have hlt : o + n * 1 + j < cur.size := by omega
            rw [cell_at hh (o + n * 1 + j) (Array.getElem?_eq_getElem hlt)]
            rfl)
        (fun j _ => no_frozen hh _)
      rw [hsize, Nat.mul_one] at hrun
      refine ⟨_, _, hrun, ⟨by simp [hl], .inr ⟨g, o, cap, cur.setIfInBounds (o + n) u, rfl, hb, heap_setCell_same w g (o + n) cur e u hh, hroom, by simpa using hs, hm, fun i x hx => ?_⟩⟩, ?_⟩
      · rcases Nat.lt_trichotomy i n with hi' | hi' | hi'
        · rw [List.getElem?_append_left (by omega)] at hx
          rw [Array.getElem?_setIfInBounds_ne (by omega)]
          exact hc i x hx
        · subst hi'
          rw [List.getElem?_append_right (by omega), hl, Nat.sub_self] at hx
          simp at hx
          subst hx
          rw [Array.getElem?_setIfInBounds_self_of_lt (by omega)]
        · rw [List.getElem?_eq_none (by simp; omega)] at hx
          cases hx
      · exact ⟨rfl, rfl, rfl, by show w.heap.size ≤ (w.setCell ⟨g, o + n, none⟩ u).heap.size; simp [World.setCell], fun k _ hk => heap_setCell_other w ⟨g, o + n, none⟩ k u (fun e' => hk (by simp [Value.ownBlock, e']))⟩
    · obtain ⟨v', w', hrun, h2, h3⟩ := run_append_arg_grows (P := P) w t ty e i z 1 bytes ht hi hz hsize hby hzc (by omega) ⟨g, o, none⟩ n cap xs (by omega)
        (fun j x hx => by rw [add_eq]; exact cell_at hh _ (hc j x hx)) ad 1 1 [u] rfl hnews (by omega) (by simp only [maxLen]; omega) hbytes
      exact ⟨v', w', hrun, OwnO.of (OwnV.mono h2 hbase), ⟨h3.os, h3.tape, h3.output, h3.size, fun k hk _ => h3.block k hk (by simp)⟩⟩
theorem wpList_appO {P : Program} {w : World} {ops : Array Oper} {rest : List Oper} {o : Oper} {a : Act} {Q : Exit → Act → World → Prop} (hgd : Region.wanted o (yielded ops a.tmps) = true) (s x : Operand) (t : TypeId)
    (ho : o.op = .call { callee := .builtin .append, args := #[s, x], argTypes := #[t, t] })
    (base : Nat) (e : TypeId) (z : Value) (bytes : Nat) (hi : (P.info? e).map (fun i => (i.zero, i.size, i.bytes)) = some (some z, 1, bytes)) (hzc : z.cells.size = 1) (hb128 : bytes ≤ 128) (ht : P.underlying t = some (.slice e))
    (v : Value) (n : Nat) (xs : List Value) (hs : a.eval s = v) (hown : OwnO w base e v n xs)
    (ad : Addr) (u : Value) (hx : a.eval x = .slice (some ad) 1 1) (hr : w.cell? ad = some u) (h1 : u.oneCell' = true)
    (h63 : n + 1 ≤ 1099511627776) (hbase : base ≤ w.heap.size)
    (h : ∀ v' w', OwnO w' base e v' (n + 1) (xs ++ [u]) → w.grownBy w' v.ownBlock → wpList P ops Q rest (a.put o.dst v') w') : wpList P ops Q (o :: rest) a w := by
  obtain ⟨i0, hi0, hz0, hz1, hz2⟩ := info_parts hi
  refine wpList_step fun K hK => ?_
  rw [if_pos hgd]
  obtain ⟨v', w', hrun, h2, h3⟩ := run_appO (P := P) w base t o.type e i0 ht hi0 z hz0 hz1 bytes hz2 hzc v n xs hown ad u hr h1 h63 hb128 hbase
  unfold Oper.wp execOp
  simp only [ho, resolve, invoke, builtin, Sem.run_bind, Sem.run_pure, Result.andThen_ok, List.map_toArray, List.map_cons, List.map_nil, hs, hx, hrun]
  exact hK _ _ (h v' w' h2 h3)
end Go.Proofs.Ytileinmcnilajaa
