/- What bytes.Equal, slices.EqualFunc of rows of bytes, sendq.Same, and a row's all, first and others come to. -/
import Derived.Test.YtileinmcnilajaaSRow
import Derived.Test.YtileinmcnilajaaClone
import Derived.WalkLawsBesides
import Derived.WalkMore
set_option maxRecDepth 100000
namespace Go.Proofs.Ytileinmcnilajaa
open Go.RowKit
set_option linter.unusedVariables false

def JustB (w : World) (t : Bool) (e : Ending) (w' : World) : Prop := e = .returned (.bool t) ∧ w' = w
/-- A test's answer; nothing that was is turned. -/
def Says (w : World) (t : Bool) (e : Ending) (w' : World) : Prop := e = .returned (.bool t) ∧ Below w.heap.size w w'

theorem bytesEqual_is (A : Option Addr) (n c : Nat) (a : List UInt8) (B : Option Addr) (m d : Nat) (b : List UInt8) (w : World) (ha : Rd w A n c a) (hb : Rd w B m d b) (t : Bool) (ht : decide (a = b) = t) :
    Calls Try.prog 24 #[.slice A n c, .slice B m d] w (JustB w t) := by
  have s1 := strs ha w (Below.refl _ _)
  have s2 := strs hb w (Below.refl _ _)
  have q := str_beq a b
  rw [ht] at q
  clear ha hb ht
  cases t
  all_goals
    go_enter Try.func24, Try.ntmps24
    go_wp2
    go_ret
    exact ⟨rfl, rfl⟩

set_option maxHeartbeats 1000000 in
theorem beqf_any (A : Option Addr) (n c : Nat) (ra : List Bw) (B : Option Addr) (m d : Nat) (rb : List Bw) (w : World) (h : RdB w A n c ra) (h' : RdB w B m d rb) (t : Bool) (ht : decide (ra.map Bw.b = rb.map Bw.b) = t) :
    Calls Try.prog 23 #[.slice A n c, .slice B m d, .func (.func 24) #[] #[]] w (JustB w t) := by
  have hs := h.size
  have hs' := h'.size
  have hle := h.le
  have HT := hidT ht
  have HA := hidT hs
  have HB := hidT hs'
  clear ht hs hs'
  by_cases hnm : n = m
  · subst hnm
    go_enter Try.func23, Try.ntmps23
    go_wp2
    go_loopw [17] (fun i w' => ∃ j : Nat, j ≤ n ∧ i = .int .i64 j ∧ Hid ((ra.map Bw.b).take j = (rb.map Bw.b).take j) ∧ w' = w) (fun i _ => n - (intOf i).toNat)
    case atStart => exact ⟨0, Nat.zero_le _, rfl, hidT rfl, rfl⟩
    case round =>
      obtain ⟨j, hj, rfl, HE, rfl⟩ := hrel
      by_cases hjn : j < n
      · obtain ⟨b1, o1, r1, rfl, hx, hr1, hc1⟩ := h.at_ hjn
        obtain ⟨b2, o2, r2, rfl, hy, hr2, hc2⟩ := h'.at_ hjn
        have HX := hidT hx
        have HY := hidT hy
        have k1 := hc1 _ (Below.refl _ _)
        have k2 := hc2 _ (Below.refl _ _)
        have q1 : (0 : Int) ≤ (j : Int) := by omega
        have q2 : (j : Int) < (n : Int) := by omega
        have hq := fun t ht => bytesEqual_is _ _ _ _ _ _ _ _ _ hr1 hr2 t ht
        clear hx hy hr1 hr2 hc1 hc2
        by_cases hxy : r1.b = r2.b
        · have hc := hq true (by simpa using hxy)
          clear hq
          have HXY := hidT hxy
          clear hxy
          go_wp2_with fail
          with_reducible refine hc.mono ?_
          rintro e w5 ⟨rfl, rfl⟩
          clear hc k1 k2
          go_wp2
          exact ⟨⟨j + 1, by omega, by go_num, hidT (by rw [take_snocB HX.out, take_snocB HY.out, HE.out, HXY.out]), by first | rfl | trivial⟩, by simp [intOf]; omega⟩
        · have hc := hq false (by simpa using hxy)
          clear hq
          have HF : Hid (t = false) := by
            refine hidT ?_
            rw [← HT.out, decide_eq_false_iff_not]
            intro hl
            have e1 := take_snocB HX.out
            rw [hl, take_snocB HY.out] at e1
            have := List.append_inj_right' e1 rfl
            injection this with this
            exact hxy this.symm
          clear hxy
          go_wp2_with fail
          with_reducible refine hc.mono ?_
          rintro e w5 ⟨rfl, rfl⟩
          clear hc k1 k2
          go_wp2
          go_ret
          rw [HF.out]
          exact ⟨rfl, rfl⟩
      · obtain rfl : j = n := by omega
        have HF : Hid (t = true) := by
          refine hidT ?_
          rw [← HT.out, decide_eq_true_eq]
          have h1 := HE.out
          rw [List.take_of_length_le (by rw [List.length_map, HA.out]; omega), List.take_of_length_le (by rw [List.length_map, HB.out]; omega)] at h1
          exact h1
        go_wp2
        go_ret
        rw [HF.out]
        exact ⟨rfl, rfl⟩
  · have HF : Hid (t = false) := by
      refine hidT ?_
      rw [← HT.out, decide_eq_false_iff_not]
      intro hl
      have := congrArg List.length hl
      rw [List.length_map, List.length_map, HA.out, HB.out] at this
      exact hnm this
    have q1 : ((n : Int) != (m : Int)) = true := by simp; omega
    have q2 : ((n : Int) == (m : Int)) = false := by simp; omega
    have q3 : (n == m) = false := by simpa using hnm
    have q4 : (n != m) = true := by simpa using hnm
    go_enter Try.func23, Try.ntmps23
    go_wp2
    go_ret
    rw [HF.out]
    exact ⟨rfl, rfl⟩
theorem ssame_any (A : Option Addr) (n c : Nat) (ra : List Bw) (B : Option Addr) (m d : Nat) (rb : List Bw) (w : World) (h : RdB w A n c ra) (h' : RdB w B m d rb) (t : Bool) (ht : decide (ra.map Bw.b = rb.map Bw.b) = t) :
    Calls Try.prog 15 #[.slice A n c, .slice B m d] w (JustB w t) := by
  have hp := beqf_any A n c ra B m d rb w h h' t ht
  go_enter Try.func15, Try.ntmps15
  go_wp2_with fail
  with_reducible refine hp.mono ?_
  rintro e w5 ⟨rfl, rfl⟩
  clear hp
  go_wp2
  go_ret
  exact ⟨rfl, rfl⟩

/-- Rows that are few, and short. -/
def Few (rs : List Bw) : Prop := rs.length ≤ 200 ∧ ∀ r ∈ rs, r.n ≤ 4000

set_option maxHeartbeats 2000000 in
theorem all_any (A : Option Addr) (n c : Nat) (rs : List Bw) (w : World) (h : RdB w A n c rs) (hf : Few rs) :
    Calls Try.prog 17 #[.slice A n c] w (GivesR w (rs.map Bw.b)) := by
  have hsz := h.size
  have hn : n ≤ 200 := by have := hf.1; omega
  have HSZ := hidT hsz
  have HF := hidT hf.2
  clear hf hsz
  go_enter Try.func17, Try.ntmps17
  go_wp2_with (refine wpList_mkV rfl (.tmp 7) (.tmp 7) 22 rfl 23 (.slice none 0 0) 24 infoS rfl (by omega) Try.underlying22 _ _ _ n rfl rfl rfl (by omega) ?_)
  intro w1 ho1 hb1
  obtain ⟨g, hg⟩ : ∃ g, w.heap.size = g := ⟨_, rfl⟩
  have HG := hidT hg
  rw [hg] at ho1 ⊢
  clear hg
  have hlt1 : g < w1.heap.size := (World.ownsRow.lt ho1 g rfl).2
  have HL1 := hidT hlt1
  clear hlt1
  go_wp2
  go_loopw [11] (fun i w' => ∃ (j : Nat) (xs : List Bw), j ≤ n ∧ i = .int .i64 j ∧ Hid (xs.length = j) ∧ Hid (xs.map Bw.b = (rs.map Bw.b).take j) ∧ OwnV w' g 23 (.slice (some ⟨g, 0, none⟩) n n) n (xs.map Bw.val ++ List.replicate (n - j) (.slice none 0 0)) ∧ OwnB w' (g + 1) xs ∧ Below w.heap.size w w') (fun i _ => n - (intOf i).toNat)
  case atStart => exact ⟨0, [], Nat.zero_le _, rfl, hidT rfl, hidT rfl, ho1, (fun r hr => by cases hr), hb1⟩
  case round =>
    obtain ⟨j, xs, hj, rfl, HXL, HXB, hown, hob, hbel⟩ := hrel
    by_cases hjn : j < n
    · obtain ⟨b, o, r, rfl, hx, hr, hc⟩ := h.at_ hjn
      have k1 := hc _ hbel
      have hrn : r.n ≤ 65536 := by have := HF.out r (List.mem_of_getElem? hx); omega
      have hp := clone_any r.A r.n r.c r.b wr (hr.below hbel) hrn
      have q1 : (0 : Int) ≤ (j : Int) := by omega
      have q2 : (j : Int) < (n : Int) := by omega
      have HX := hidT hx
      have HRL := hidT hr.1
      have hgw : g + 1 ≤ wr.heap.size := (World.ownsRow.lt hown g rfl).2
      have HGW := hidT hgw
      have HOB := hidT hob
      have HBE := hidT hbel
      have HOW := hidT hown
      clear hx hr hc hrn hgw hob hbel hown
      go_wp2_with fail
      with_reducible refine hp.mono ?_
      rintro e w5 ⟨A5, c5, rfl, ho5, hb5⟩
      have hown5 := OwnV.later HOW.out hb5
      have hob5 := HOB.out.later hb5
      have hbe5 := bthen HBE.out hb5
      have hgu : ∃ u, (xs.map Bw.val ++ List.replicate (n - j) (.slice none 0 0))[j]? = some u := ⟨_, List.getElem?_eq_getElem (by have := OwnV.size hown5; omega)⟩
      obtain ⟨u, hu⟩ := hgu
      have hcx := OwnV.cell hown5 hu
      have hfx := OwnV.frozen hown5 j
      have HO5 := hidT ho5
      have HOB5 := hidT hob5
      have HBE5 := hidT hbe5
      have HOW5 := hidT hown5
      clear hu hp ho5 hb5 hown5 hob5 hbe5 k1
      go_wp2
      have hset := (World.ownsRow.stored HOW5.out j (.slice A5 r.b.length c5)).1
      have hfill := fillB HXL.out hjn ⟨A5, r.b.length, c5, r.b⟩ (.slice none 0 0)
      refine ⟨⟨j + 1, xs ++ [⟨A5, r.b.length, c5, r.b⟩], by omega, by go_num, hidT (by rw [List.length_append, HXL.out]; rfl), hidT ?_, ?_, ?_, ?_⟩, by simp [intOf]; omega⟩
      · rw [take_snocB HX.out, List.map_append, HXB.out]
        rfl
      · rw [← hfill]
        exact hset
      · exact (OwnB.snoc (r := ⟨A5, r.b.length, c5, r.b⟩) HOB5.out (HO5.out.mono HGW.out)).but (by omega) (But.setCell _ g j _)
      · exact HBE5.out.setCell (p := ⟨g, j, none⟩) (by have := HG.out; show w.heap.size ≤ g; omega) _
    · obtain rfl : j = n := by omega
      go_wp2
      go_ret
      rw [Nat.sub_self, List.replicate_zero, List.append_nil] at hown
      refine ⟨_, _, _, xs, rfl, OwnV.mono hown (by have := HG.out; omega), hob.mono (by have := HG.out; omega), ?_, hbel⟩
      rw [HXB.out, List.take_of_length_le (by rw [List.length_map, HSZ.out]; exact Nat.le_refl _)]

/-- A row's first message. -/
theorem first_any (b o n c : Nat) (r : Bw) (rs : List Bw) (w : World) (h : RdB w (some ⟨b, o, none⟩) n c (r :: rs)) (hf : r.n ≤ 65536) :
    Calls Try.prog 20 #[.slice (some ⟨b, o, none⟩) n c] w (Gives w 5 r.b) := by
  have hs := h.size
  simp only [List.length_cons] at hs
  obtain ⟨b', o', r', hA, hx, hr, hc⟩ := h.at_ (k := 0) (by omega)
  injection hA with hA
  injection hA with e1 e2
  subst e1; subst e2
  simp only [List.getElem?_cons_zero, Option.some.injEq] at hx
  subst hx
  have k := hc w (Below.refl _ _)
  rw [Nat.add_zero] at k
  have q1 : (0 : Int) < (n : Int) := by omega
  have q2 : 0 < n := by omega
  have hp := clone_any r.A r.n r.c r.b w hr hf
  clear hc hr h hs hf
  go_enter Try.func20, Try.ntmps20
  go_wp2_with fail
  with_reducible refine hp.mono ?_
  intro e w5 hG
  obtain ⟨A5, c5, rfl, ho5, hb5⟩ := id hG
  clear hp ho5 hb5
  go_wp2
  go_ret
  exact hG
theorem few_drop {rs : List Bw} (h : Few rs) : Few (rs.drop 1) := ⟨by rw [List.length_drop]; have := h.1; omega, fun r hr => h.2 r (List.mem_of_mem_drop hr)⟩
/-- A row's others. -/
theorem others_any (b o n c : Nat) (rs : List Bw) (w : World) (h : RdB w (some ⟨b, o, none⟩) n c rs) (hf : Few rs) (h1 : 1 ≤ n) :
    Calls Try.prog 22 #[.slice (some ⟨b, o, none⟩) n c] w (GivesR w ((rs.drop 1).map Bw.b)) := by
  obtain ⟨Q, hQ⟩ : ∃ Q, (if c = 1 then some (⟨b, o, none⟩ : Addr) else some ⟨b, o + 1, none⟩) = Q := ⟨_, rfl⟩
  have ht := h.tail h1 Q hQ
  have hp := all_any Q (n - 1) (c - 1) _ w ht (few_drop hf)
  have hnc := h.1.2.1
  have hcap := h.cap
  have q1 : (1 : Int) ≤ (n : Int) := by omega
  have q2 : (n : Int) ≤ (c : Int) := by omega
  have q3 : IntKind.i64.wrap 1 = 1 := rfl
  clear ht h hf
  go_enter Try.func22, Try.ntmps22
  go_wp2_with fail
  with_reducible refine hp.mono ?_
  intro e w5 hG
  obtain ⟨A5, n5, c5, xs, rfl, h5⟩ := id hG
  clear hp h5
  go_wp2
  go_ret
  exact hG
end Go.Proofs.Ytileinmcnilajaa
