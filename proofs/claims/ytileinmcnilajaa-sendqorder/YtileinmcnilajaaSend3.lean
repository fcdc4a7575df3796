/- What the document's Pieces, Same, Few, Offer, Head and Pop come to. -/
import Derived.Test.YtileinmcnilajaaSend2
import Derived.Deep.QuietTactic
import Derived.BigQuiet
import Derived.Deep.RegionHeld3
set_option maxRecDepth 100000
namespace Go.Proofs.Ytileinmcnilajaa
open Go.RowKit
set_option linter.unusedVariables false

set_option maxHeartbeats 1000000 in
theorem rpieces_any (A : Option Addr) (n c : Nat) (ra : List Bw) (B : Option Addr) (m d : Nat) (rb : List Bw) (w : World) (h : RdB w A n c ra) (h' : RdB w B m d rb) (t : Bool) (ht : decide (ra.map Bw.b = rb.map Bw.b) = t) :
    Calls Try.prog 25 #[.slice A n c, .slice B m d] w (Says w t) := by
  have hs := h.size
  have hs' := h'.size
  have hle := h.le
  have HT := hidT ht
  have HA := hidT hs
  have HB := hidT hs'
  clear ht hs hs'
  by_cases hnm : n = m
  · subst hnm
    go_enter Try.func25, Try.ntmps25
    go_wp2
    go_loopw [5] (fun i w' => ∃ j : Nat, j ≤ n ∧ i = .int .i64 j ∧ Hid ((ra.map Bw.b).take j = (rb.map Bw.b).take j) ∧ Below w.heap.size w w') (fun i _ => n - (intOf i).toNat)
    case atStart => exact ⟨0, Nat.zero_le _, rfl, hidT rfl, Below.refl _ _⟩
    case round =>
      obtain ⟨j, hj, rfl, HE, hbel⟩ := hrel
      by_cases hjn : j < n
      · obtain ⟨b1, o1, r1, rfl, hx, hr1, hc1⟩ := h.at_ hjn
        obtain ⟨b2, o2, r2, rfl, hy, hr2, hc2⟩ := h'.at_ hjn
        have HX := hidT hx
        have HY := hidT hy
        have k1 := fun w' hb => hc1 w' (bthen hbel hb)
        have k2 := fun w' hb => hc2 w' (bthen hbel hb)
        have s1 := fun w' hb => strs hr1 w' (bthen hbel hb)
        have s2 := fun w' hb => strs hr2 w' (bthen hbel hb)
        have q1 : (0 : Int) ≤ (j : Int) := by omega
        have q2 : (j : Int) < (n : Int) := by omega
        clear hx hy hr1 hr2 hc1 hc2
        by_cases hxy : r1.b = r2.b
        · have q := str_same hxy
          go_wp2
          go_region_held (fun w' => Below wr.heap.size wr w') (first | exact (Below.refl _ _).drew | exact Below.refl _ _) (fail)
          all_goals go_wp2
          exact ⟨⟨j + 1, by omega, by go_num, hidT (by rw [take_snocB HX.out, take_snocB HY.out, HE.out, hxy]), hbel.drew⟩, by simp [intOf]; omega⟩
        · have q := str_other hxy
          have HF : Hid (t = false) := by
            refine hidT ?_
            rw [← HT.out, decide_eq_false_iff_not]
            intro hl
            have e1 := take_snocB HX.out
            rw [hl, take_snocB HY.out] at e1
            have := List.append_cancel_left e1
            injection this with this
            exact hxy this.symm
          go_wp2
          go_region_held (fun w' => Below wr.heap.size wr w') (first | exact (Below.refl _ _).drew | exact Below.refl _ _) (fail)
          all_goals go_wp2
          go_ret
          rw [HF.out]
          exact ⟨rfl, hbel.drew⟩
      · obtain rfl : j = n := by omega
        have HF : Hid (t = true) := by
          refine hidT ?_
          rw [← HT.out, decide_eq_true_eq]
          have h1 := HE.out
          rw [List.take_of_length_le (by rw [List.length_map, HA.out]; omega), List.take_of_length_le (by rw [List.length_map, HB.out]; omega)] at h1
          exact h1
        go_wp2
        go_ret
        rw [HF.out]
        exact ⟨rfl, hbel⟩
  · have HF : Hid (t = false) := by
      refine hidT ?_
      rw [← HT.out, decide_eq_false_iff_not]
      intro hl
      have := congrArg List.length hl
      rw [List.length_map, List.length_map, HA.out, HB.out] at this
      exact hnm this
    have q1 : ((n : Int) != (m : Int)) = true := by simp; omega
    have q2 : ((n : Int) == (m : Int)) = false := by simp; omega
    have q3 : (n == m) = false := by simpa using hnm
    have q4 : (n != m) = true := by simpa using hnm
    go_enter Try.func25, Try.ntmps25
    go_wp2
    go_ret
    rw [HF.out]
    exact ⟨rfl, Below.refl _ _⟩

theorem rssame_any (A : Option Addr) (n c : Nat) (ra : List Bw) (B : Option Addr) (m d : Nat) (rb : List Bw) (w : World) (h : RdB w A n c ra) (h' : RdB w B m d rb) (t : Bool) (ht : decide (ra.map Bw.b = rb.map Bw.b) = t) :
    Calls Try.prog 16 #[.slice A n c, .slice B m d] w (Says w t) := by
  have hp := rpieces_any A n c ra B m d rb w h h' t ht
  go_enter Try.func16, Try.ntmps16
  go_wp2_with fail
  with_reducible refine hp.mono ?_
  rintro e w5 ⟨rfl, hb5⟩
  clear hp
  go_wp2
  go_ret
  exact ⟨rfl, hb5⟩

/-- Rows are few, and short, as the document has it. -/
def fewB (rs : List Bw) (most : Nat) : Bool := decide (rs.length ≤ most ∧ ∀ r ∈ rs, r.n ≤ 2000)
theorem fewB_few {rs : List Bw} {most : Nat} (h : fewB rs most = true) (hm : most ≤ 200) : Few rs := by
  unfold fewB at h
  rw [decide_eq_true_eq] at h
  exact ⟨by omega, fun r hr => by have := h.2 r hr; omega⟩
def upTo (rs : List Bw) (j : Nat) : Prop := ∀ (i : Nat) (r : Bw), i < j → rs[i]? = some r → r.n ≤ 2000

set_option maxHeartbeats 1000000 in
theorem rfew_any (A : Option Addr) (n c : Nat) (rs : List Bw) (most : Nat) (w : World) (h : RdB w A n c rs) (hm : most ≤ 200) (t : Bool) (ht : fewB rs most = t) :
    Calls Try.prog 8 #[.slice A n c, .int .i64 (most : Int)] w (JustB w t) := by
  have hsz := h.size
  have hle := h.le
  have HT := hidT ht
  have HS := hidT hsz
  clear ht hsz
  by_cases hnm : n ≤ most
  · have q1 : decide ((most : Int) < (n : Int)) = false := by simp; omega
    have q1' : decide (most < n) = false := by simpa using hnm
    have hn2 : n ≤ 200 := by omega
    have HNM := hidT hnm
    clear hnm
    go_enter Try.func8, Try.ntmps8
    go_wp2
    go_loopw [5] (fun i w' => ∃ j : Nat, j ≤ n ∧ i = .int .i64 j ∧ Hid (upTo rs j) ∧ w' = w) (fun i _ => n - (intOf i).toNat)
    case atStart => exact ⟨0, Nat.zero_le _, rfl, hidT (fun i r hi _ => absurd hi (by omega)), by first | rfl | trivial⟩
    case round =>
      obtain ⟨j, hj, rfl, HU, rfl⟩ := hrel
      by_cases hjn : j < n
      · obtain ⟨b1, o1, r1, rfl, hx, hr1, hc1⟩ := h.at_ hjn
        have HX := hidT hx
        have k1 := hc1 _ (Below.refl _ _)
        have q2 : (0 : Int) ≤ (j : Int) := by omega
        have q3 : (j : Int) < (n : Int) := by omega
        clear hx hr1 hc1
        by_cases h20 : r1.n ≤ 2000
        · have q4 : decide ((2000 : Int) < (r1.n : Int)) = false := by simp; omega
          have HU2 : Hid (upTo rs (j + 1)) := by
            intro i s hi hs
            by_cases hij : i < j
            · exact HU.out i s hij hs
            · obtain rfl : j = i := by omega
              rw [HX.out] at hs
              injection hs with hs
              subst hs
              exact h20
          clear h20
          go_wp2
          exact ⟨⟨j + 1, by omega, by go_num, HU2, by first | rfl | trivial⟩, by simp [intOf]; omega⟩
        · have q4 : decide ((2000 : Int) < (r1.n : Int)) = true := by simp; omega
          have HF : Hid (t = false) := by
            refine hidT ?_
            rw [← HT.out]
            unfold fewB
            rw [decide_eq_false_iff_not]
            intro h2
            have := h2.2 r1 (List.mem_of_getElem? HX.out)
            omega
          clear h20
          go_wp2
          go_ret
          rw [HF.out]
          exact ⟨rfl, rfl⟩
      · obtain rfl : j = n := by omega
        have HF : Hid (t = true) := by
          refine hidT ?_
          rw [← HT.out]
          unfold fewB
          rw [decide_eq_true_eq]
          refine ⟨by have := HS.out; have := HNM.out; omega, fun r hr => ?_⟩
          obtain ⟨i, hi⟩ := List.getElem?_of_mem hr
          exact HU.out i r (by have := (List.getElem?_eq_some_iff.1 hi).1; have := HS.out; omega) hi
        go_wp2
        go_ret
        rw [HF.out]
        exact ⟨rfl, rfl⟩
  · have q1 : decide ((most : Int) < (n : Int)) = true := by simp; omega
    have q1' : decide (most < n) = true := by simp; omega
    have HF : Hid (t = false) := by
      refine hidT ?_
      rw [← HT.out]
      unfold fewB
      rw [decide_eq_false_iff_not]
      intro h2
      have := HS.out
      omega
    clear hnm
    go_enter Try.func8, Try.ntmps8
    go_wp2
    go_ret
    rw [HF.out]
    exact ⟨rfl, rfl⟩

theorem rhead_none (A : Option Addr) (c : Nat) (w : World) : Calls Try.prog 12 #[.slice A 0 c] w (HeadIs w false []) := by
  go_enter Try.func12, Try.ntmps12
  go_wp2
  go_ret2
  exact ⟨none, 0, 0, rfl, Rd.nil_ _, Below.refl _ _⟩
theorem rpop_none (A : Option Addr) (c : Nat) (w : World) (h : RdB w A 0 c []) : Calls Try.prog 14 #[.slice A 0 c] w (PopIs w false []) := by
  go_enter Try.func14, Try.ntmps14
  go_wp2
  go_ret2
  exact ⟨A, 0, c, [], rfl, h, rfl, Below.refl _ _⟩
theorem rhead_some (b o n c : Nat) (r : Bw) (rs : List Bw) (w : World) (h : RdB w (some ⟨b, o, none⟩) n c (r :: rs)) :
    Calls Try.prog 12 #[.slice (some ⟨b, o, none⟩) n c] w (HeadIs w true r.b) := by
  have hs := h.size
  simp only [List.length_cons] at hs
  obtain ⟨b', o', r', hA, hx, hr, hc⟩ := h.at_ (k := 0) (by omega)
  injection hA with hA
  injection hA with e1 e2
  subst e1; subst e2
  simp only [List.getElem?_cons_zero, Option.some.injEq] at hx
  subst hx
  have k := hc w (Below.refl _ _)
  rw [Nat.add_zero] at k
  have q1 : ((n : Int) == 0) = false := by simp; omega
  have q2 : decide ((n : Int) = 0) = false := by simp; omega
  have q3 : n ≠ 0 := by omega
  have q4 : (0 : Int) < (n : Int) := by omega
  have q5 : 0 < n := by omega
  clear hc h hs
  have HR := hidT hr
  clear hr
  go_enter Try.func12, Try.ntmps12
  go_wp2
  go_ret2
  exact ⟨_, _, _, rfl, HR.out, Below.refl _ _⟩
theorem val_one (rs : List Bw) : ∀ u ∈ rs.map Bw.val, u.oneCell' = true := by
  intro u hu
  obtain ⟨r, _, rfl⟩ := List.mem_map.1 hu
  rfl
set_option maxHeartbeats 1000000 in
theorem rpop_some (b o n c : Nat) (rs : List Bw) (w : World) (h : RdB w (some ⟨b, o, none⟩) n c rs) (hf : Few rs) (h1 : 1 ≤ n) :
    Calls Try.prog 14 #[.slice (some ⟨b, o, none⟩) n c] w (PopIs w true ((rs.drop 1).map Bw.b)) := by
  obtain ⟨Q, hQ⟩ : ∃ Q, (if c = 1 then some (⟨b, o, none⟩ : Addr) else some ⟨b, o + 1, none⟩) = Q := ⟨_, rfl⟩
  have ht := h.tail h1 Q hQ
  have hn : n ≤ 200 := by have := hf.1; have := h.size; omega
  have hnc := h.1.2.1
  have hcap := h.cap
  have q1 : ((n : Int) == 0) = false := by simp; omega
  have q2 : decide ((n : Int) = 0) = false := by simp; omega
  have q3 : n ≠ 0 := by omega
  have q4 : (1 : Int) ≤ (n : Int) := by omega
  have q5 : (n : Int) ≤ (c : Int) := by omega
  have q6 : IntKind.i64.wrap 1 = 1 := rfl
  have HT := hidT ht
  clear ht h hf
  go_enter Try.func14, Try.ntmps14
  go_wp2_with (
    at_builtin
    refine wpList_appV rfl (.tmp 8) (.tmp 10) 22 rfl w.heap.size 23 (.slice none 0 0) 24 infoS rfl (by omega) Try.underlying22 (.slice (some ⟨w.heap.size, 0, none⟩) 0 0) 0 [] rfl ?own Q (n - 1) (c - 1) ((rs.drop 1).map Bw.val) rfl ?rd ?one ?h63 ?hb ?_
    case own => exact World.ownsRow_made (base := w.heap.size) (e := 23) (size := 1) w #[] 0 (Nat.le_refl _) (Nat.zero_le _) rfl
    case rd => exact HT.out.1.alloc _
    case one => exact val_one _
    case h63 => omega
    case hb => simp
    intro v1 w7 hown hbel hgrow)
  have hB7 : Below w.heap.size w w7 := (nkeep w (.cells #[] 23)).trans hbel
  obtain ⟨A7, c7, rfl, hr7⟩ := OwnV.rd hown
  go_ret2
  exact ⟨A7, _, c7, rs.drop 1, rfl, ⟨hr7, fun r hr => (HT.out.2 r hr).below hB7⟩, rfl, hB7⟩

theorem roff_long (A : Option Addr) (n c : Nat) (rs : List Bw) (B : Option Addr) (m d : Nat) (b : List UInt8) (room most : Int) (w : World) (h : RdB w A n c rs) (hm : most < (m : Int)) :
    Calls Try.prog 10 #[.slice A n c, .slice B m d, .int .i64 room, .int .i64 most] w (OfferR w (rs.map Bw.b) 5) := by
  have q1 : decide (most < (m : Int)) = true := by simpa using hm
  have H := hidT h
  clear h
  go_enter Try.func10, Try.ntmps10
  go_wp2
  go_ret2
  exact ⟨A, n, c, rs, rfl, H.out, rfl, Below.refl _ _⟩
theorem roff_full (A : Option Addr) (n c : Nat) (rs : List Bw) (B : Option Addr) (m d : Nat) (b : List UInt8) (room most : Int) (w : World) (h : RdB w A n c rs) (hm : (m : Int) ≤ most) (hr : room ≤ (n : Int)) :
    Calls Try.prog 10 #[.slice A n c, .slice B m d, .int .i64 room, .int .i64 most] w (OfferR w (rs.map Bw.b) 4) := by
  have q1 : decide (most < (m : Int)) = false := by simp; omega
  have q2 : decide (room ≤ (n : Int)) = true := by simpa using hr
  have H := hidT h
  clear h
  go_enter Try.func10, Try.ntmps10
  go_wp2
  go_ret2
  exact ⟨A, n, c, rs, rfl, H.out, rfl, Below.refl _ _⟩
set_option maxHeartbeats 2000000 in
theorem roff_ok (A : Option Addr) (n c : Nat) (rs : List Bw) (B : Option Addr) (m d : Nat) (b : List UInt8) (room most : Int) (w : World) (h : RdB w A n c rs) (hf : Few rs) (hb : Rd w B m d b) (hm6 : m ≤ 65536) (hm : (m : Int) ≤ most) (hr : (n : Int) < room) :
    Calls Try.prog 10 #[.slice A n c, .slice B m d, .int .i64 room, .int .i64 most] w (OfferR w (rs.map Bw.b ++ [b]) 0) := by
  have q1 : decide (most < (m : Int)) = false := by simp; omega
  have q2 : decide (room ≤ (n : Int)) = false := by simp; omega
  have hle : n ≤ 200 := by have := hf.1; have := h.size; omega
  have H := hidT h
  have HB := hidT hb
  clear h hf hb
  go_enter Try.func10, Try.ntmps10
  go_wp2_with (first
    | (at_builtin
       refine wpList_appV rfl (.tmp 20) (.tmp 21) 22 rfl w.heap.size 23 (.slice none 0 0) 24 infoS rfl (by omega) Try.underlying22 (.slice (some ⟨w.heap.size, 0, none⟩) 0 0) 0 [] rfl ?own A n c (rs.map Bw.val) rfl ?rd ?one ?h63 ?hb ?_
       case own => exact World.ownsRow_made (base := w.heap.size) (e := 23) (size := 1) w #[] 0 (Nat.le_refl _) (Nat.zero_le _) rfl
       case rd => exact H.out.1.alloc _
       case one => exact val_one _
       case h63 => omega
       case hb => simp
       intro v1 w1 hown hbel hgrow
       have hB1 : Below w.heap.size w w1 := (nkeep w (.cells #[] 23)).trans hbel
       rw [Nat.zero_add, List.nil_append] at hown
       clear hbel hgrow
       have HO1 := hidT hown
       have HB1 := hidT hB1
       clear hown hB1)
    | (at_builtin
       refine wpList_app rfl (.tmp 23) (.tmp 24) 23 rfl w1.heap.size 5 info5 Try.underlying23 (.slice (some ⟨w1.heap.size, 0, none⟩) 0 0) 0 [] rfl ?own B m d b rfl ?rd ?h63 ?hb ?_
       case own => exact World.ownsRow_made (base := w1.heap.size) (e := 5) (size := 1) w1 #[] 0 (Nat.le_refl _) (Nat.zero_le _) rfl
       case rd => exact (HB.out.below HB1.out).alloc _
       case h63 => omega
       case hb => simp
       intro v2 w2 hown hbel
       have hB2' : Below w1.heap.size w1 w2 := (nkeep w1 (.cells #[] 5)).trans hbel
       rw [Nat.zero_add, List.nil_append] at hown
       have HO2 := hidT (OwnV.later HO1.out hB2')
       have HB2 := hidT (bthen HB1.out hB2')
       have HC2 := hidT (hown.mono HB1.out.size)
       obtain ⟨A6, c6, rfl, _⟩ := hown.rd
       clear hown hbel hB2')
    | (at_builtin
       refine wpList_appV rfl (.tmp 22) (.tmp 26) 22 rfl w.heap.size 23 (.slice none 0 0) 24 infoS rfl (by omega) Try.underlying22 v1 n (rs.map Bw.val) rfl ?own (some ⟨w2.heap.size, 0, none⟩) 1 1 [.slice A6 m c6] rfl ?rd ?one ?h63 ?hb ?_
       case own => exact OwnV.later HO2.out (nkeep _ _)
       case rd => exact RdV.lit _ _ _ _ _ rfl 1 rfl (by simp only [maxLen]; omega) _ rfl
       case one => intro u hu; rw [List.mem_singleton] at hu; subst hu; rfl
       case h63 => omega
       case hb => have := (bthen HB2.out (nkeep w2 (.cells #[.slice A6 m c6] 23))).size; exact this
       intro v3 w3 hown hbel hgrow))
  have hO3 := OwnV.later HO2.out (nkeep w2 (.cells #[.slice A6 m c6] 23))
  have hC3 : Own w3 w.heap.size 5 (.slice A6 m c6) m b := OwnV.grown (HC2.out.later (nkeep w2 (.cells #[.slice A6 m c6] 23))) hO3 (by decide) hgrow
  have hB3 : Below w.heap.size w w3 := (bthen HB2.out (nkeep w2 (.cells #[.slice A6 m c6] 23))).trans hbel
  obtain ⟨A7, c7, rfl, hr7⟩ := OwnV.rd hown
  go_ret2
  refine ⟨A7, n + 1, c7, rs ++ [⟨A6, m, c6, b⟩], rfl, ⟨?_, fun r hr => ?_⟩, ?_, hB3⟩
  · rw [List.map_append]
    exact hr7
  · rcases List.mem_append.1 hr with hr | hr
    · exact (H.out.2 r hr).below hB3
    · rw [List.mem_singleton] at hr
      subst hr
      exact hC3.same
  · rw [List.map_append]
    rfl
/-- The document's offer, whatever it is. -/
theorem roffer_any (A : Option Addr) (n c : Nat) (rs : List Bw) (B : Option Addr) (m d : Nat) (b : List UInt8) (room most : Int) (w : World) (h : RdB w A n c rs) (hf : Few rs) (hb : Rd w B m d b) (hm6 : m ≤ 65536) (k : Int) (hk : offC n m room most = k) (ls : List (List UInt8)) (hl : offL (rs.map Bw.b) b k = ls) :
    Calls Try.prog 10 #[.slice A n c, .slice B m d, .int .i64 room, .int .i64 most] w (OfferR w ls k) := by
  subst hl
  subst hk
  unfold offC
  split
  · exact roff_long A n c rs B m d b room most w h (by assumption)
  · split
    · exact roff_full A n c rs B m d b room most w h (by omega) (by assumption)
    · exact roff_ok A n c rs B m d b room most w h hf hb hm6 (by omega) (by omega)

/-- Whether any waits, the first message, and the others. -/
def hd (rs : List Bw) : List UInt8 := ((rs.head?).map Bw.b).getD []
theorem head_any (A : Option Addr) (n c : Nat) (rs : List Bw) (w : World) (h : RdB w A n c rs) (hf : Few rs) (t : Bool) (ht : decide (0 < n) = t) :
    Calls Try.prog 11 #[.slice A n c] w (HeadIs w t (hd rs)) ∧ Calls Try.prog 12 #[.slice A n c] w (HeadIs w t (hd rs)) := by
  have hs := h.size
  cases rs with
  | nil =>
    obtain rfl : n = 0 := hs.symm
    subst ht
    exact ⟨head_none A c w, rhead_none A c w⟩
  | cons r rs =>
    simp only [List.length_cons] at hs
    obtain rfl : t = true := by rw [← ht, decide_eq_true_eq]; omega
    obtain ⟨b, o, _, rfl, _⟩ := h.at_ (k := 0) (by omega)
    exact ⟨head_some b o n c r rs w h (by have := hf.2 r (List.mem_cons_self ..); omega), rhead_some b o n c r rs w h⟩
theorem pop_any (A : Option Addr) (n c : Nat) (rs : List Bw) (w : World) (h : RdB w A n c rs) (hf : Few rs) (t : Bool) (ht : decide (0 < n) = t) :
    Calls Try.prog 13 #[.slice A n c] w (PopIs w t ((rs.drop 1).map Bw.b)) ∧ Calls Try.prog 14 #[.slice A n c] w (PopIs w t ((rs.drop 1).map Bw.b)) := by
  have hs := h.size
  by_cases h0 : 0 < n
  · obtain rfl : t = true := by rw [← ht, decide_eq_true_eq]; exact h0
    obtain ⟨b, o, _, rfl, _⟩ := h.at_ h0
    exact ⟨pop_some b o n c rs w h hf h0, rpop_some b o n c rs w h hf h0⟩
  · obtain rfl : n = 0 := by omega
    obtain rfl : rs = [] := List.eq_nil_of_length_eq_zero hs
    subst ht
    exact ⟨pop_none A c w, rpop_none A c w h⟩
end Go.Proofs.Ytileinmcnilajaa
