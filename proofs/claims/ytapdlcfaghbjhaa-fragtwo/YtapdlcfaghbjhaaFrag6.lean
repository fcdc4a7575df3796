/- What the document's Pieces and Cut come to. -/
import Derived.Test.YtapdlcfaghbjhaaFrag5
import Derived.Deep.QuietTactic
import Derived.BigQuiet
import Derived.Deep.RegionHeld3
set_option maxRecDepth 100000
namespace Go.Proofs.Ytapdlcfaghbjhaa
open Go.RowKit
set_option linter.unusedVariables false

theorem RdB.size {w : World} {A : Option Addr} {n c : Nat} {rs : List Bw} (h : RdB w A n c rs) : rs.length = n := by have := h.1.1; simpa using this
theorem RdB.le {w : World} {A : Option Addr} {n c : Nat} {rs : List Bw} (h : RdB w A n c rs) : n ≤ 9223372036854775807 := h.1.le
theorem RdB.below {w w' : World} {A : Option Addr} {n c : Nat} {rs : List Bw} (h : RdB w A n c rs) (hb : Below w.heap.size w w') : RdB w' A n c rs := ⟨h.1.below hb, fun r hr => (h.2 r hr).below hb⟩
theorem RdB.at_ {w : World} {A : Option Addr} {n c : Nat} {rs : List Bw} (h : RdB w A n c rs) {k : Nat} (hk : k < n) : ∃ b o r, A = some ⟨b, o, none⟩ ∧ rs[k]? = some r ∧ Rd w r.A r.n r.c r.b ∧ ∀ w', Below w.heap.size w w' → w'.cell? ⟨b, o + k, none⟩ = some (.slice r.A r.n r.c) := by
  obtain ⟨b, o, u, hA, hu, hc⟩ := h.1.at_ hk
  rw [List.getElem?_map, Option.map_eq_some_iff] at hu
  obtain ⟨r, hr, rfl⟩ := hu
  exact ⟨b, o, r, hA, hr, h.2 r (List.mem_of_getElem? hr), fun w' hb => (hb.cell (World.block_lt_of_cell? _ _ hc)).trans hc⟩
theorem take_snocB {rs : List Bw} {j : Nat} {r : Bw} (h : rs[j]? = some r) : (rs.map Bw.b).take (j + 1) = (rs.map Bw.b).take j ++ [r.b] := by
  rw [List.take_add_one, List.getElem?_map, h]
  rfl

set_option maxHeartbeats 1000000 in
theorem rpieces_any (A : Option Addr) (n c : Nat) (ra : List Bw) (B : Option Addr) (m d : Nat) (rb : List Bw) (w : World) (h : RdB w A n c ra) (h' : RdB w B m d rb) (t : Bool) (ht : decide (ra.map Bw.b = rb.map Bw.b) = t) :
    Calls Try.prog 15 #[.slice A n c, .slice B m d] w (Says w t) := by
  have hs := h.size
  have hs' := h'.size
  have hle := h.le
  have HT := hidT ht
  have HA := hidT hs
  have HB := hidT hs'
  clear ht hs hs'
  by_cases hnm : n = m
  · subst hnm
    go_enter Try.func15, Try.ntmps15
    go_wp2
    go_loopw [5] (fun i w' => ∃ j : Nat, j ≤ n ∧ i = .int .i64 j ∧ Hid ((ra.map Bw.b).take j = (rb.map Bw.b).take j) ∧ Below w.heap.size w w') (fun i _ => n - (intOf i).toNat)
    case atStart => exact ⟨0, Nat.zero_le _, rfl, hidT rfl, Below.refl _ _⟩
    case round =>
      obtain ⟨j, hj, rfl, HE, hbel⟩ := hrel
      by_cases hjn : j < n
      · obtain ⟨b1, o1, r1, rfl, hx, hr1, hc1⟩ := h.at_ hjn
        obtain ⟨b2, o2, r2, rfl, hy, hr2, hc2⟩ := h'.at_ hjn
        have HX := hidT hx
        have HY := hidT hy
        have k1 := fun w' hb => hc1 w' (bthen hbel hb)
        have k2 := fun w' hb => hc2 w' (bthen hbel hb)
        have s1 := fun w' hb => strs hr1 w' (bthen hbel hb)
        have s2 := fun w' hb => strs hr2 w' (bthen hbel hb)
        have q1 : (0 : Int) ≤ (j : Int) := by omega
        have q2 : (j : Int) < (n : Int) := by omega
        clear hx hy hr1 hr2 hc1 hc2
        by_cases hxy : r1.b = r2.b
        · have q := str_same hxy
          go_wp2
          go_region_held (fun w' => Below wr.heap.size wr w') (first | exact (Below.refl _ _).drew | exact Below.refl _ _) (fail)
          all_goals go_wp2
          exact ⟨⟨j + 1, by omega, by go_num, hidT (by rw [take_snocB HX.out, take_snocB HY.out, HE.out, hxy]), hbel.drew⟩, by simp [intOf]; omega⟩
        · have q := str_other hxy
          have HF : Hid (t = false) := by
            refine hidT ?_
            rw [← HT.out, decide_eq_false_iff_not]
            intro hl
            have e1 := take_snocB HX.out
            rw [hl, take_snocB HY.out] at e1
            have := List.append_cancel_left e1
            injection this with this
            exact hxy this.symm
          go_wp2
          go_region_held (fun w' => Below wr.heap.size wr w') (first | exact (Below.refl _ _).drew | exact Below.refl _ _) (fail)
          all_goals go_wp2
          go_ret
          rw [HF.out]
          exact ⟨rfl, hbel.drew⟩
      · obtain rfl : j = n := by omega
        have HF : Hid (t = true) := by
          refine hidT ?_
          rw [← HT.out, decide_eq_true_eq]
          have h1 := HE.out
          rw [List.take_of_length_le (by rw [List.length_map, HA.out]; omega), List.take_of_length_le (by rw [List.length_map, HB.out]; omega)] at h1
          exact h1
        go_wp2
        go_ret
        rw [HF.out]
        exact ⟨rfl, hbel⟩
  · have HF : Hid (t = false) := by
      refine hidT ?_
      rw [← HT.out, decide_eq_false_iff_not]
      intro hl
      have := congrArg List.length hl
      rw [List.length_map, List.length_map, HA.out, HB.out] at this
      exact hnm this
    have q1 : ((n : Int) != (m : Int)) = true := by simp; omega
    have q2 : ((n : Int) == (m : Int)) = false := by simp; omega
    have q3 : (n == m) = false := by simpa using hnm
    have q4 : (n != m) = true := by simpa using hnm
    go_enter Try.func15, Try.ntmps15
    go_wp2
    go_ret
    rw [HF.out]
    exact ⟨rfl, Below.refl _ _⟩

theorem drop_take_snoc {l : List UInt8} {o q : Nat} {x : UInt8} (h : l[o + q]? = some x) : (l.drop o).take q ++ [x] = (l.drop o).take (q + 1) := by
  rw [List.take_add_one, List.getElem?_drop, h]
  rfl
/-- Rows that the call owns, one behind the other. -/
def OwnB (w : World) (base : Nat) (rs : List Bw) : Prop := ∀ r ∈ rs, Own w base 5 (Bw.val r) r.n r.b
theorem OwnB.later {w w' : World} {base : Nat} {rs : List Bw} (h : OwnB w base rs) (hb : Below w.heap.size w w') : OwnB w' base rs := fun r hr => (h r hr).later hb
theorem OwnB.snoc {w : World} {base : Nat} {rs : List Bw} {r : Bw} (h : OwnB w base rs) (hr : Own w base 5 (Bw.val r) r.n r.b) : OwnB w base (rs ++ [r]) := by
  intro x hx
  rcases List.mem_append.1 hx with hx | hx
  · exact h x hx
  · rw [List.mem_singleton.1 hx]; exact hr
theorem OwnB.grown {w w' : World} {base base' k : Nat} {rs : List Bw} {v : Value} {l : List Value} (h : OwnB w base rs) (h' : OwnV w base' 22 v k l) (hg : w.grownBy w' v.ownBlock) : OwnB w' base rs := fun r hr => OwnV.grown (h r hr) h' (by decide) hg

theorem rcut_none (A : Option Addr) (n c : Nat) (m : Int) (w : World) (hm : m < 1) :
    Calls Try.prog 17 #[.slice A n c, .int .i64 m] w (GivesP w []) := by
  have q1 : decide (m < 1) = true := by simpa using hm
  go_enter Try.func17, Try.ntmps17
  go_wp2
  go_ret
  exact ⟨none, 0, 0, [], rfl, ⟨RdV.nil_ _, fun r hr => by cases hr⟩, rfl, Below.refl _ _⟩

set_option maxHeartbeats 4000000 in
theorem rcut_some (A : Option Addr) (n c : Nat) (l : List UInt8) (m : Nat) (w : World) (h : Rd w A n c l) (hn : n ≤ 65536) (hm : 1 ≤ m) (hmm : m ≤ 9223372036854775807) :
    Calls Try.prog 17 #[.slice A n c, .int .i64 (m : Int)] w (GivesP w (cutOf l m)) := by
  have q1 : decide ((m : Int) < 1) = false := by simp; omega
  have hln := h.1
  have H := hidT h
  have HL := hidT hln
  have hE0 : Own (w.alloc (.cells #[] 5)) w.heap.size 5 (.slice (some ⟨w.heap.size, 0, none⟩) 0 0) 0 [] := World.ownsRow_made (base := w.heap.size) (e := 5) (size := 1) w #[] 0 (Nat.le_refl _) (Nat.zero_le _) rfl
  have hB0 : Below w.heap.size w (w.alloc (.cells #[] 5)) := nkeep' w _
  clear h hln
  go_enter Try.func17, Try.ntmps17
  go_wp2
  go_loopw [5, 6, 7] (fun v5 v6 i wr => ∃ (j k q : Nat) (rs : List Bw) (wb : World) (A5 : Option Addr) (c5 : Nat) (A6 : Option Addr) (c6 : Nat), j ≤ n ∧ i = .int .i64 j ∧ v5 = .slice A5 k c5 ∧ v6 = .slice A6 q c6 ∧ Hid (j = k * m + q) ∧ q ≤ m ∧ Hid (k = 0 ∨ 0 < q) ∧
      Hid (OwnV wb w.heap.size 22 (.slice A5 k c5) k (rs.map Bw.val)) ∧ Hid (OwnB wb w.heap.size rs) ∧ Hid (rs.map Bw.b = uptoP l m k) ∧ Hid (Own wr wb.heap.size 5 (.slice A6 q c6) q ((l.drop (k * m)).take q)) ∧ Below w.heap.size w wb ∧ Below wb.heap.size wb wr) (fun _ _ i _ => n - (intOf i).toNat)
  case atStart => exact ⟨0, 0, 0, [], w, none, 0, _, _, Nat.zero_le _, rfl, rfl, rfl, hidT (by omega), Nat.zero_le _, hidT (.inl rfl), hidT (World.ownsRow_nil _ _ _ _), hidT (fun r hr => by cases hr), hidT rfl, hidT hE0, Below.refl _ _, hB0⟩
  case round =>
    obtain ⟨j, k, q, rs, wb, A5, c5, A6, c6, hj, rfl, rfl, rfl, HJ, hqm, HK, HV, HB, HU, HP, hbw, hbr⟩ := hrel
    have hbwr := bthen hbw hbr
    have hk5 : k ≤ n := by
      have := HJ.out
      have : k * 1 ≤ k * m := Nat.mul_le_mul_left k hm
      omega
    by_cases hjn : j < n
    · obtain ⟨b, o, x, rfl, hx, hcx⟩ : ∃ b o x, A = some ⟨b, o, none⟩ ∧ l[j]? = some x ∧ w.cell? ⟨b, o + j, none⟩ = some (.int .u8 (x.toNat : Int)) := by
        obtain ⟨b, o, u, hA, hu, hc⟩ := (Rd.v H.out).at_ hjn
        obtain ⟨x, hx, rfl⟩ := bs_get hu
        exact ⟨b, o, x, hA, hx, hc⟩
      have q2 : (0 : Int) ≤ (j : Int) := by omega
      have q3 : (j : Int) < (n : Int) := by omega
      have HX := hidT hx
      clear hx
      by_cases hqe : q = m
      · obtain rfl : m = q := hqe.symm
        have hv1 : OwnV (wr.alloc (.cells #[.slice A6 m c6] 22)) w.heap.size 22 (.slice A5 k c5) k (rs.map Bw.val) := OwnV.later (OwnV.later HV.out hbr) (nkeep' _ _)
        have hr1 : RdV (wr.alloc (.cells #[.slice A6 m c6] 22)) (some ⟨wr.heap.size, 0, none⟩) 1 1 [.slice A6 m c6] := RdV.lit wr _ _ _ _ rfl 1 rfl (by simp only [maxLen]; omega) _ rfl
        have hB1 : OwnB (wr.alloc (.cells #[.slice A6 m c6] 22)) w.heap.size (rs ++ [⟨A6, m, c6, (l.drop (k * m)).take m⟩]) := (OwnB.snoc (r := ⟨A6, m, c6, (l.drop (k * m)).take m⟩) (HB.out.later hbr) (HP.out.mono hbw.size)).later (nkeep' _ _)
        have HR1 := hidT hr1
        have HV1 := hidT hv1
        have HB1 := hidT hB1
        clear hr1 hv1 hB1
        have hw1 := bthen hbwr (nkeep' wr (.cells #[.slice A6 m c6] 22))
        go_wp2_with (first
          | (at_builtin
             refine wpList_appV rfl (.tmp 21) (.tmp 23) 35 rfl w.heap.size 22 (.slice none 0 0) 24 infoS rfl (by omega) Try.underlying35 _ k _ rfl HV1.out _ 1 1 _ rfl HR1.out (by simp [Value.oneCell']) (by omega) hw1.size ?_
             intro v2 w2 ho2 hb2 hg2
             obtain ⟨A2, c2, rfl, hrd2⟩ := OwnV.rd ho2
             have HO2 := hidT ho2
             have hb02 := hw1.trans hb2
             have HB2 := hidT (HB1.out.grown HV1.out hg2)
             have hkc := ((bthen hb02 (nkeep' w2 (.cells #[] 5))).cell (World.block_lt_of_cell? _ _ hcx)).trans hcx
             have HE := hidT (OwnV.later (World.ownsRow_made (base := w2.heap.size) (e := 5) (size := 1) w2 #[] 0 (Nat.le_refl _) (Nat.zero_le _) rfl) (nkeep' _ (.cells #[.int .u8 (x.toNat : Int)] 5)))
             have HR2 := hidT (Rd.litAt (w2.alloc (.cells #[] 5)) 5 (0, 0) #[.int .u8 (x.toNat : Int)] [x] rfl 1 rfl (by simp only [maxLen]; omega) (w2.heap.size + 1) (by rw [size_alloc]))
             have hz2 : w2.heap.size ≤ ((w2.alloc (.cells #[] 5)).alloc (.cells #[.int .u8 (x.toNat : Int)] 5)).heap.size := by simp only [size_alloc]; omega
             clear ho2 hrd2 hg2)
          | (at_builtin
             refine wpList_app rfl (.tmp 26) (.tmp 31) 22 rfl w2.heap.size 5 info5 Try.underlying22 (.slice (some ⟨w2.heap.size, 0, none⟩) 0 0) 0 [] rfl HE.out (some ⟨w2.heap.size + 1, 0, none⟩) 1 1 [x] rfl HR2.out (by omega) hz2 ?_
             intro v3 w3 ho3 hb3
             obtain ⟨A3, c3, rfl, hrd3⟩ := Own.rd ho3
             have HO3 := hidT ho3
             clear ho3 hrd3))
        have hb23 : Below w2.heap.size w2 w3 := (bthen (nkeep' w2 (.cells #[] 5)) (nkeep' (w2.alloc (.cells #[] 5)) (.cells #[.int .u8 (x.toNat : Int)] 5))).trans hb3
        refine ⟨⟨j + 1, k + 1, 1, rs ++ [⟨A6, m, c6, (l.drop (k * m)).take m⟩], w2, A2, c2, A3, c3, by omega, by go_num, rfl, rfl, hidT (by have := HJ.out; rw [Nat.succ_mul]; omega), hm, hidT (.inr (by omega)), hidT ?_, HB2, hidT ?_, hidT ?_, hb02, hb23⟩, by simp [intOf]; omega⟩
        · rw [List.map_append]; exact HO2.out
        · rw [List.map_append, HU.out, uptoP_succ]; rfl
        · have := HO3.out
          have e := drop_take_snoc (l := l) (o := (k + 1) * m) (q := 0) (x := x) (by rw [Nat.succ_mul, Nat.add_zero, ← HJ.out]; exact HX.out)
          rw [List.take_zero] at e
          rw [e] at this
          exact this
      · have q4 : ((q : Int) == (m : Int)) = false := by simp; omega
        have q5 : (q == m) = false := by simpa using hqe
        have hkc := (hbwr.cell (World.block_lt_of_cell? _ _ hcx)).trans hcx
        have HE := hidT (HP.out.later (nkeep' wr (.cells #[.int .u8 (x.toNat : Int)] 5)))
        have HR2 := hidT (Rd.litAt wr 5 (0, 0) #[.int .u8 (x.toNat : Int)] [x] rfl 1 rfl (by simp only [maxLen]; omega) wr.heap.size rfl)
        have hz2 : wb.heap.size ≤ (wr.alloc (.cells #[.int .u8 (x.toNat : Int)] 5)).heap.size := by have := hbr.size; simp only [size_alloc]; omega
        have hqn : q ≤ n := by have := HJ.out; omega
        go_wp2_with (
          at_builtin
          refine wpList_app rfl (.tmp 26) (.tmp 31) 22 rfl wb.heap.size 5 info5 Try.underlying22 (.slice A6 q c6) q ((l.drop (k * m)).take q) rfl HE.out (some ⟨wr.heap.size, 0, none⟩) 1 1 [x] rfl HR2.out (by omega) hz2 ?_
          intro v3 w3 ho3 hb3
          obtain ⟨A3, c3, rfl, hrd3⟩ := Own.rd ho3
          have HO3 := hidT ho3
          clear ho3 hrd3)
        refine ⟨⟨j + 1, k, q + 1, rs, wb, A5, c5, A3, c3, by omega, by go_num, rfl, rfl, hidT (by have := HJ.out; omega), by omega, hidT (.inr (by omega)), HV, HB, HU, hidT ?_, hbw, (bthen hbr (nkeep' wr (.cells #[.int .u8 (x.toNat : Int)] 5))).trans hb3⟩, by simp [intOf]; omega⟩
        have := HO3.out
        rw [drop_take_snoc (by rw [← HJ.out]; exact HX.out)] at this
        exact this
    · obtain rfl : j = n := by omega
      have hv1 : OwnV (wr.alloc (.cells #[.slice A6 q c6] 22)) w.heap.size 22 (.slice A5 k c5) k (rs.map Bw.val) := OwnV.later (OwnV.later HV.out hbr) (nkeep' _ _)
      have hr1 : RdV (wr.alloc (.cells #[.slice A6 q c6] 22)) (some ⟨wr.heap.size, 0, none⟩) 1 1 [.slice A6 q c6] := RdV.lit wr _ _ _ _ rfl 1 rfl (by simp only [maxLen]; omega) _ rfl
      have hB1 : OwnB (wr.alloc (.cells #[.slice A6 q c6] 22)) w.heap.size (rs ++ [⟨A6, q, c6, (l.drop (k * m)).take q⟩]) := (OwnB.snoc (r := ⟨A6, q, c6, (l.drop (k * m)).take q⟩) (HB.out.later hbr) (HP.out.mono hbw.size)).later (nkeep' _ _)
      have HR1 := hidT hr1
      have HV1 := hidT hv1
      have HB1 := hidT hB1
      clear hr1 hv1 hB1
      have hw1 := bthen hbwr (nkeep' wr (.cells #[.slice A6 q c6] 22))
      go_wp2_with (
        at_builtin
        refine wpList_appV rfl (.tmp 33) (.tmp 35) 35 rfl w.heap.size 22 (.slice none 0 0) 24 infoS rfl (by omega) Try.underlying35 _ k _ rfl HV1.out _ 1 1 _ rfl HR1.out (by simp [Value.oneCell']) (by omega) hw1.size ?_
        intro v2 w2 ho2 hb2 hg2
        obtain ⟨A2, c2, rfl, hrd2⟩ := OwnV.rd ho2
        have HO2 := hidT hrd2
        have hb02 := hw1.trans hb2
        have HB2 := hidT (HB1.out.grown HV1.out hg2)
        clear ho2 hrd2 hg2)
      go_ret
      have hmid : Mid j m k := by
        have h1 := HJ.out
        rcases HK.out with h | h
        · exact .inl h
        · exact .inr (by omega)
      have hlast := hmid.last hm (by have := HJ.out; omega)
      refine ⟨A2, k + 1, c2, rs ++ [⟨A6, q, c6, (l.drop (k * m)).take q⟩], rfl, ⟨?_, fun r hr => Own.same (HB2.out r hr)⟩, ?_, hb02⟩
      · rw [List.map_append]; exact HO2.out
      · have e : cutOf l m = uptoP l m (k + 1) := by unfold cutOf; rw [HL.out, hlast]; rfl
        have e2 : (l.drop (k * m)).take q = piece l m k := by
          unfold piece
          have h1 := HJ.out
          rw [List.take_of_length_le (i := q), List.take_of_length_le (i := m)]
          · rw [List.length_drop, HL.out]; omega
          · rw [List.length_drop, HL.out]; omega
        rw [e, List.map_append, HU.out, uptoP_succ, ← e2]
        rfl
end Go.Proofs.Ytapdlcfaghbjhaa
