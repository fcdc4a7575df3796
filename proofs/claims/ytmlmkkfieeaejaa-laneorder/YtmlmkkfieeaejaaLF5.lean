/- What the document's Cut comes to. -/
import Derived.Test.YtmlmkkfieeaejaaLF1
import Derived.Test.YtmlmkkfieeaejaaFragMath
import Derived.Deep.QuietTactic
import Derived.BigQuiet
set_option maxRecDepth 100000
namespace Go.Proofs.Ytmlmkkfieeaejaa
open Go.RowKit
set_option linter.unusedVariables false

/-- A row of bytes in memory. -/
structure Bw where
  A : Option Addr
  n : Nat
  c : Nat
  b : List UInt8
def Bw.val (r : Bw) : Value := .slice r.A r.n r.c
/-- Rows of bytes. -/
def RdB (w : World) (A : Option Addr) (n c : Nat) (rs : List Bw) : Prop := RdV w A n c (rs.map Bw.val) ∧ ∀ r ∈ rs, Rd w r.A r.n r.c r.b
/-- A call that gives pieces in memory of its own, and turns nothing that was. -/
def GivesP (w : World) (ls : List (List UInt8)) (e : Ending) (w' : World) : Prop := ∃ A n c rs, e = .returned (.slice A n c) ∧ RdB w' A n c rs ∧ rs.map Bw.b = ls ∧ Below w.heap.size w w' ∧ (∀ b o, A = some ⟨b, o, none⟩ → w.heap.size ≤ b) ∧ ∀ r ∈ rs, ∀ b o, r.A = some ⟨b, o, none⟩ → w.heap.size ≤ b
theorem infoS : (Try.prog.info? 23).map (fun i => (i.zero, i.size, i.bytes)) = some (some (.slice none 0 0), 1, 24) := by kernel_rfl
theorem nkeep' (w : World) (o : Obj) : Below w.heap.size w (w.alloc o) := (Below.refl _ _).alloc (Nat.le_refl _) _

theorem RdB.size {w : World} {A : Option Addr} {n c : Nat} {rs : List Bw} (h : RdB w A n c rs) : rs.length = n := by have := h.1.1; simpa using this
theorem RdB.le {w : World} {A : Option Addr} {n c : Nat} {rs : List Bw} (h : RdB w A n c rs) : n ≤ 9223372036854775807 := h.1.le
theorem RdB.below {w w' : World} {A : Option Addr} {n c : Nat} {rs : List Bw} (h : RdB w A n c rs) (hb : Below w.heap.size w w') : RdB w' A n c rs := ⟨h.1.below hb, fun r hr => (h.2 r hr).below hb⟩
theorem RdB.at_ {w : World} {A : Option Addr} {n c : Nat} {rs : List Bw} (h : RdB w A n c rs) {k : Nat} (hk : k < n) : ∃ b o r, A = some ⟨b, o, none⟩ ∧ rs[k]? = some r ∧ Rd w r.A r.n r.c r.b ∧ ∀ w', Below w.heap.size w w' → w'.cell? ⟨b, o + k, none⟩ = some (.slice r.A r.n r.c) := by
  obtain ⟨b, o, u, hA, hu, hc⟩ := h.1.at_ hk
  rw [List.getElem?_map, Option.map_eq_some_iff] at hu
  obtain ⟨r, hr, rfl⟩ := hu
  exact ⟨b, o, r, hA, hr, h.2 r (List.mem_of_getElem? hr), fun w' hb => (hb.cell (World.block_lt_of_cell? _ _ hc)).trans hc⟩
theorem take_snocB {rs : List Bw} {j : Nat} {r : Bw} (h : rs[j]? = some r) : (rs.map Bw.b).take (j + 1) = (rs.map Bw.b).take j ++ [r.b] := by
  rw [List.take_add_one, List.getElem?_map, h]
  rfl


theorem drop_take_snoc {l : List UInt8} {o q : Nat} {x : UInt8} (h : l[o + q]? = some x) : (l.drop o).take q ++ [x] = (l.drop o).take (q + 1) := by
  rw [List.take_add_one, List.getElem?_drop, h]
  rfl
/-- Rows that the call owns, one behind the other. -/
def OwnB (w : World) (base : Nat) (rs : List Bw) : Prop := ∀ r ∈ rs, Own w base 5 (Bw.val r) r.n r.b
theorem OwnB.later {w w' : World} {base : Nat} {rs : List Bw} (h : OwnB w base rs) (hb : Below w.heap.size w w') : OwnB w' base rs := fun r hr => (h r hr).later hb
theorem OwnB.snoc {w : World} {base : Nat} {rs : List Bw} {r : Bw} (h : OwnB w base rs) (hr : Own w base 5 (Bw.val r) r.n r.b) : OwnB w base (rs ++ [r]) := by
  intro x hx
  rcases List.mem_append.1 hx with hx | hx
  · exact h x hx
  · rw [List.mem_singleton.1 hx]; exact hr
theorem OwnB.grown {w w' : World} {base base' k : Nat} {rs : List Bw} {v : Value} {l : List Value} (h : OwnB w base rs) (h' : OwnV w base' 23 v k l) (hg : w.grownBy w' v.ownBlock) : OwnB w' base rs := fun r hr => OwnV.grown (h r hr) h' (by decide) hg


set_option maxHeartbeats 4000000 in
theorem rcut_some (A : Option Addr) (n c : Nat) (l : List UInt8) (m : Nat) (w : World) (h : Rd w A n c l) (hn : n ≤ 65536) (hm : 1 ≤ m) (hmm : m ≤ 9223372036854775807) :
    Calls Try.prog 33 #[.slice A n c, .int .i64 (m : Int)] w (GivesP w (cutOf l m)) := by
  have q1 : decide ((m : Int) < 1) = false := by simp; omega
  have hln := h.1
  have H := hidT h
  have HL := hidT hln
  have hE0 : Own (w.alloc (.cells #[] 5)) w.heap.size 5 (.slice (some ⟨w.heap.size, 0, none⟩) 0 0) 0 [] := World.ownsRow_made (base := w.heap.size) (e := 5) (size := 1) w #[] 0 (Nat.le_refl _) (Nat.zero_le _) rfl
  have hB0 : Below w.heap.size w (w.alloc (.cells #[] 5)) := nkeep' w _
  clear h hln
  go_enter Try.func33, Try.ntmps33
  go_wp2
  go_loopw [5, 6, 7] (fun v5 v6 i wr => ∃ (j k q : Nat) (rs : List Bw) (wb : World) (A5 : Option Addr) (c5 : Nat) (A6 : Option Addr) (c6 : Nat), j ≤ n ∧ i = .int .i64 j ∧ v5 = .slice A5 k c5 ∧ v6 = .slice A6 q c6 ∧ Hid (j = k * m + q) ∧ q ≤ m ∧ Hid (k = 0 ∨ 0 < q) ∧
      Hid (OwnV wb w.heap.size 23 (.slice A5 k c5) k (rs.map Bw.val)) ∧ Hid (OwnB wb w.heap.size rs) ∧ Hid (rs.map Bw.b = uptoP l m k) ∧ Hid (Own wr wb.heap.size 5 (.slice A6 q c6) q ((l.drop (k * m)).take q)) ∧ Below w.heap.size w wb ∧ Below wb.heap.size wb wr) (fun _ _ i _ => n - (intOf i).toNat)
  case atStart => exact ⟨0, 0, 0, [], w, none, 0, _, _, Nat.zero_le _, rfl, rfl, rfl, hidT (by omega), Nat.zero_le _, hidT (.inl rfl), hidT (World.ownsRow_nil _ _ _ _), hidT (fun r hr => by cases hr), hidT rfl, hidT hE0, Below.refl _ _, hB0⟩
  case round =>
    obtain ⟨j, k, q, rs, wb, A5, c5, A6, c6, hj, rfl, rfl, rfl, HJ, hqm, HK, HV, HB, HU, HP, hbw, hbr⟩ := hrel
    have hbwr := bthen hbw hbr
    have hk5 : k ≤ n := by
      have := HJ.out
      have : k * 1 ≤ k * m := Nat.mul_le_mul_left k hm
      omega
    by_cases hjn : j < n
    · obtain ⟨b, o, x, rfl, hx, hcx⟩ : ∃ b o x, A = some ⟨b, o, none⟩ ∧ l[j]? = some x ∧ w.cell? ⟨b, o + j, none⟩ = some (.int .u8 (x.toNat : Int)) := by
        obtain ⟨b, o, u, hA, hu, hc⟩ := (Rd.v H.out).at_ hjn
        obtain ⟨x, hx, rfl⟩ := bs_get hu
        exact ⟨b, o, x, hA, hx, hc⟩
      have q2 : (0 : Int) ≤ (j : Int) := by omega
      have q3 : (j : Int) < (n : Int) := by omega
      have HX := hidT hx
      clear hx
      by_cases hqe : q = m
      · obtain rfl : m = q := hqe.symm
        have hv1 : OwnV (wr.alloc (.cells #[.slice A6 m c6] 23)) w.heap.size 23 (.slice A5 k c5) k (rs.map Bw.val) := OwnV.later (OwnV.later HV.out hbr) (nkeep' _ _)
        have hr1 : RdV (wr.alloc (.cells #[.slice A6 m c6] 23)) (some ⟨wr.heap.size, 0, none⟩) 1 1 [.slice A6 m c6] := RdV.lit wr _ _ _ _ rfl 1 rfl (by simp only [maxLen]; omega) _ rfl
        have hB1 : OwnB (wr.alloc (.cells #[.slice A6 m c6] 23)) w.heap.size (rs ++ [⟨A6, m, c6, (l.drop (k * m)).take m⟩]) := (OwnB.snoc (r := ⟨A6, m, c6, (l.drop (k * m)).take m⟩) (HB.out.later hbr) (HP.out.mono hbw.size)).later (nkeep' _ _)
        have HR1 := hidT hr1
        have HV1 := hidT hv1
        have HB1 := hidT hB1
        clear hr1 hv1 hB1
        have hw1 := bthen hbwr (nkeep' wr (.cells #[.slice A6 m c6] 23))
        go_wp2_with (first
          | (at_builtin
             refine wpList_appV rfl (.tmp 21) (.tmp 23) 55 rfl w.heap.size 23 (.slice none 0 0) 24 infoS rfl (by omega) Try.underlying55 _ k _ rfl HV1.out _ 1 1 _ rfl HR1.out (by simp [Value.oneCell']) (by omega) hw1.size ?_
             intro v2 w2 ho2 hb2 hg2
             obtain ⟨A2, c2, rfl, hrd2⟩ := OwnV.rd ho2
             have HO2 := hidT ho2
             have hb02 := hw1.trans hb2
             have HB2 := hidT (HB1.out.grown HV1.out hg2)
             have hkc := ((bthen hb02 (nkeep' w2 (.cells #[] 5))).cell (World.block_lt_of_cell? _ _ hcx)).trans hcx
             have HE := hidT (OwnV.later (World.ownsRow_made (base := w2.heap.size) (e := 5) (size := 1) w2 #[] 0 (Nat.le_refl _) (Nat.zero_le _) rfl) (nkeep' _ (.cells #[.int .u8 (x.toNat : Int)] 5)))
             have HR2 := hidT (Rd.litAt (w2.alloc (.cells #[] 5)) 5 (0, 0) #[.int .u8 (x.toNat : Int)] [x] rfl 1 rfl (by simp only [maxLen]; omega) (w2.heap.size + 1) (by rw [size_alloc]))
             have hz2 : w2.heap.size ≤ ((w2.alloc (.cells #[] 5)).alloc (.cells #[.int .u8 (x.toNat : Int)] 5)).heap.size := by simp only [size_alloc]; omega
             clear ho2 hrd2 hg2)
          | (at_builtin
             refine wpList_app rfl (.tmp 26) (.tmp 31) 23 rfl w2.heap.size 5 info5 Try.underlying23 (.slice (some ⟨w2.heap.size, 0, none⟩) 0 0) 0 [] rfl HE.out (some ⟨w2.heap.size + 1, 0, none⟩) 1 1 [x] rfl HR2.out (by omega) hz2 ?_
             intro v3 w3 ho3 hb3
             obtain ⟨A3, c3, rfl, hrd3⟩ := Own.rd ho3
             have HO3 := hidT ho3
             clear ho3 hrd3))
        have hb23 : Below w2.heap.size w2 w3 := (bthen (nkeep' w2 (.cells #[] 5)) (nkeep' (w2.alloc (.cells #[] 5)) (.cells #[.int .u8 (x.toNat : Int)] 5))).trans hb3
        refine ⟨⟨j + 1, k + 1, 1, rs ++ [⟨A6, m, c6, (l.drop (k * m)).take m⟩], w2, A2, c2, A3, c3, by omega, by go_num, rfl, rfl, hidT (by have := HJ.out; rw [Nat.succ_mul]; omega), hm, hidT (.inr (by omega)), hidT ?_, HB2, hidT ?_, hidT ?_, hb02, hb23⟩, by simp [intOf]; omega⟩
        · rw [List.map_append]; exact HO2.out
        · rw [List.map_append, HU.out, uptoP_succ]; rfl
        · have := HO3.out
          have e := drop_take_snoc (l := l) (o := (k + 1) * m) (q := 0) (x := x) (by rw [Nat.succ_mul, Nat.add_zero, ← HJ.out]; exact HX.out)
          rw [List.take_zero] at e
          rw [e] at this
          exact this
      · have q4 : ((q : Int) == (m : Int)) = false := by simp; omega
        have q5 : (q == m) = false := by simpa using hqe
        have hkc := (hbwr.cell (World.block_lt_of_cell? _ _ hcx)).trans hcx
        have HE := hidT (HP.out.later (nkeep' wr (.cells #[.int .u8 (x.toNat : Int)] 5)))
        have HR2 := hidT (Rd.litAt wr 5 (0, 0) #[.int .u8 (x.toNat : Int)] [x] rfl 1 rfl (by simp only [maxLen]; omega) wr.heap.size rfl)
        have hz2 : wb.heap.size ≤ (wr.alloc (.cells #[.int .u8 (x.toNat : Int)] 5)).heap.size := by have := hbr.size; simp only [size_alloc]; omega
        have hqn : q ≤ n := by have := HJ.out; omega
        go_wp2_with (
          at_builtin
          refine wpList_app rfl (.tmp 26) (.tmp 31) 23 rfl wb.heap.size 5 info5 Try.underlying23 (.slice A6 q c6) q ((l.drop (k * m)).take q) rfl HE.out (some ⟨wr.heap.size, 0, none⟩) 1 1 [x] rfl HR2.out (by omega) hz2 ?_
          intro v3 w3 ho3 hb3
          obtain ⟨A3, c3, rfl, hrd3⟩ := Own.rd ho3
          have HO3 := hidT ho3
          clear ho3 hrd3)
        refine ⟨⟨j + 1, k, q + 1, rs, wb, A5, c5, A3, c3, by omega, by go_num, rfl, rfl, hidT (by have := HJ.out; omega), by omega, hidT (.inr (by omega)), HV, HB, HU, hidT ?_, hbw, (bthen hbr (nkeep' wr (.cells #[.int .u8 (x.toNat : Int)] 5))).trans hb3⟩, by simp [intOf]; omega⟩
        have := HO3.out
        rw [drop_take_snoc (by rw [← HJ.out]; exact HX.out)] at this
        exact this
    · obtain rfl : j = n := by omega
      have hv1 : OwnV (wr.alloc (.cells #[.slice A6 q c6] 23)) w.heap.size 23 (.slice A5 k c5) k (rs.map Bw.val) := OwnV.later (OwnV.later HV.out hbr) (nkeep' _ _)
      have hr1 : RdV (wr.alloc (.cells #[.slice A6 q c6] 23)) (some ⟨wr.heap.size, 0, none⟩) 1 1 [.slice A6 q c6] := RdV.lit wr _ _ _ _ rfl 1 rfl (by simp only [maxLen]; omega) _ rfl
      have hB1 : OwnB (wr.alloc (.cells #[.slice A6 q c6] 23)) w.heap.size (rs ++ [⟨A6, q, c6, (l.drop (k * m)).take q⟩]) := (OwnB.snoc (r := ⟨A6, q, c6, (l.drop (k * m)).take q⟩) (HB.out.later hbr) (HP.out.mono hbw.size)).later (nkeep' _ _)
      have HR1 := hidT hr1
      have HV1 := hidT hv1
      have HB1 := hidT hB1
      clear hr1 hv1 hB1
      have hw1 := bthen hbwr (nkeep' wr (.cells #[.slice A6 q c6] 23))
      go_wp2_with (
        at_builtin
        refine wpList_appV rfl (.tmp 33) (.tmp 35) 55 rfl w.heap.size 23 (.slice none 0 0) 24 infoS rfl (by omega) Try.underlying55 _ k _ rfl HV1.out _ 1 1 _ rfl HR1.out (by simp [Value.oneCell']) (by omega) hw1.size ?_
        intro v2 w2 ho2 hb2 hg2
        obtain ⟨A2, c2, rfl, hrd2⟩ := OwnV.rd ho2
        have HO2 := hidT hrd2
        have HA2 := hidT (addrV ho2 (Nat.le_refl _))
        have hb02 := hw1.trans hb2
        have HB2 := hidT (HB1.out.grown HV1.out hg2)
        clear ho2 hrd2 hg2)
      go_ret
      have hmid : Mid j m k := by
        have h1 := HJ.out
        rcases HK.out with h | h
        · exact .inl h
        · exact .inr (by omega)
      have hlast := hmid.last hm (by have := HJ.out; omega)
      refine ⟨A2, k + 1, c2, rs ++ [⟨A6, q, c6, (l.drop (k * m)).take q⟩], rfl, ⟨?_, fun r hr => Own.same (HB2.out r hr)⟩, ?_, hb02, HA2.out, fun r hr => addrB (show Own _ _ _ (.slice r.A r.n r.c) _ _ from HB2.out r hr) (Nat.le_refl _)⟩
      · rw [List.map_append]; exact HO2.out
      · have e : cutOf l m = uptoP l m (k + 1) := by unfold cutOf; rw [HL.out, hlast]; rfl
        have e2 : (l.drop (k * m)).take q = piece l m k := by
          unfold piece
          have h1 := HJ.out
          rw [List.take_of_length_le (i := q), List.take_of_length_le (i := m)]
          · rw [List.length_drop, HL.out]; omega
          · rw [List.length_drop, HL.out]; omega
        rw [e, List.map_append, HU.out, uptoP_succ, ← e2]
        rfl
end Go.Proofs.Ytmlmkkfieeaejaa
