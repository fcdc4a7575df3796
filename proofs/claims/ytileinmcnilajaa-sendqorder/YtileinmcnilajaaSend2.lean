/- What sendq's asked, Head, Pop and Offer come to. -/
import Derived.Test.YtileinmcnilajaaSend1
import Derived.Laws.EntriesVeiled
set_option maxRecDepth 100000
namespace Go.Proofs.Ytileinmcnilajaa
open Go.RowKit
set_option linter.unusedVariables false

/-- A message, and whether there is one. -/
def HeadIs (w : World) (t : Bool) (l : List UInt8) (e : Ending) (w' : World) : Prop :=
  ∃ A n c, e = .returned (.tuple #[.slice A n c, .bool t]) ∧ Rd w' A n c l ∧ Below w.heap.size w w'
/-- Rows of bytes, and whether there were any. -/
def PopIs (w : World) (t : Bool) (ls : List (List UInt8)) (e : Ending) (w' : World) : Prop :=
  ∃ A n c rs, e = .returned (.tuple #[.slice A n c, .bool t]) ∧ RdB w' A n c rs ∧ rs.map Bw.b = ls ∧ Below w.heap.size w w'
/-- Rows of bytes of the call's own, and a code. -/
def OfferIs (w : World) (ls : List (List UInt8)) (k : Int) (e : Ending) (w' : World) : Prop :=
  ∃ A n c rs, e = .returned (.tuple #[.slice A n c, .int .i64 k]) ∧ OwnV w' w.heap.size 23 (.slice A n c) n (rs.map Bw.val) ∧ OwnB w' w.heap.size rs ∧ rs.map Bw.b = ls ∧ Below w.heap.size w w'
/-- Rows of bytes, and a code. -/
def OfferR (w : World) (ls : List (List UInt8)) (k : Int) (e : Ending) (w' : World) : Prop :=
  ∃ A n c rs, e = .returned (.tuple #[.slice A n c, .int .i64 k]) ∧ RdB w' A n c rs ∧ rs.map Bw.b = ls ∧ Below w.heap.size w w'
theorem OfferIs.r {w w' : World} {ls : List (List UInt8)} {k : Int} {e : Ending} (h : OfferIs w ls k e w') : OfferR w ls k e w' := by
  obtain ⟨A, n, c, rs, h1, h2, h3, h4, h5⟩ := h
  exact ⟨A, n, c, rs, h1, OwnV.rdb h2 h3, h4, h5⟩

theorem head_none (A : Option Addr) (c : Nat) (w : World) : Calls Try.prog 11 #[.slice A 0 c] w (HeadIs w false []) := by
  have hp : Calls Try.prog 19 #[.slice A 0 c, .func (.func 20) #[.slice A 0 c] #[]] w (fun e w' => e = .returned (.tuple #[.slice none 0 0, .bool false]) ∧ w' = w) := by
    go_enter Try.func19, Try.ntmps19
    go_wp2
    go_ret2
    exact ⟨rfl, rfl⟩
  go_enter Try.func11, Try.ntmps11
  go_wp2_with fail
  with_reducible refine hp.mono ?_
  rintro e w5 ⟨rfl, rfl⟩
  clear hp
  go_wp2
  go_ret2
  exact ⟨none, 0, 0, rfl, Rd.nil_ _, Below.refl _ _⟩
theorem pop_none (A : Option Addr) (c : Nat) (w : World) : Calls Try.prog 13 #[.slice A 0 c] w (PopIs w false []) := by
  have hp : Calls Try.prog 21 #[.slice A 0 c, .func (.func 22) #[.slice A 0 c] #[]] w (fun e w' => e = .returned (.tuple #[.slice none 0 0, .bool false]) ∧ w' = w) := by
    go_enter Try.func21, Try.ntmps21
    go_wp2
    go_ret2
    exact ⟨rfl, rfl⟩
  go_enter Try.func13, Try.ntmps13
  go_wp2_with fail
  with_reducible refine hp.mono ?_
  rintro e w5 ⟨rfl, rfl⟩
  clear hp
  go_wp2
  go_ret2
  exact ⟨none, 0, 0, [], rfl, RdB.nil_ _, rfl, Below.refl _ _⟩
theorem head_some (b o n c : Nat) (r : Bw) (rs : List Bw) (w : World) (h : RdB w (some ⟨b, o, none⟩) n c (r :: rs)) (hf : r.n ≤ 65536) :
    Calls Try.prog 11 #[.slice (some ⟨b, o, none⟩) n c] w (HeadIs w true r.b) := by
  have hs := h.size
  simp only [List.length_cons] at hs
  have hf := first_any b o n c r rs w h hf
  have q1 : ((n : Int) == 0) = false := by simp; omega
  have q2 : decide ((n : Int) = 0) = false := by simp; omega
  have q3 : n ≠ 0 := by omega
  have hp : Calls Try.prog 19 #[.slice (some ⟨b, o, none⟩) n c, .func (.func 20) #[.slice (some ⟨b, o, none⟩) n c] #[]] w (HeadIs w true r.b) := by
    go_enter Try.func19, Try.ntmps19
    go_wp2_with fail
    with_reducible refine hf.mono ?_
    rintro e w5 ⟨A5, c5, rfl, ho5, hb5⟩
    have HO := hidT ho5
    clear ho5 hf
    go_wp2
    go_ret2
    exact ⟨A5, _, c5, rfl, HO.out.same, hb5⟩
  clear hf
  go_enter Try.func11, Try.ntmps11
  go_wp2_with fail
  with_reducible refine hp.mono ?_
  intro e w5 hG
  obtain ⟨A5, n5, c5, rfl, h5⟩ := id hG
  clear hp h5
  go_wp2
  go_ret2
  exact hG
theorem pop_some (b o n c : Nat) (rs : List Bw) (w : World) (h : RdB w (some ⟨b, o, none⟩) n c rs) (hf : Few rs) (h1 : 1 ≤ n) :
    Calls Try.prog 13 #[.slice (some ⟨b, o, none⟩) n c] w (PopIs w true ((rs.drop 1).map Bw.b)) := by
  have hf := others_any b o n c rs w h hf h1
  have q1 : ((n : Int) == 0) = false := by simp; omega
  have q2 : decide ((n : Int) = 0) = false := by simp; omega
  have q3 : n ≠ 0 := by omega
  have hp : Calls Try.prog 21 #[.slice (some ⟨b, o, none⟩) n c, .func (.func 22) #[.slice (some ⟨b, o, none⟩) n c] #[]] w (PopIs w true ((rs.drop 1).map Bw.b)) := by
    go_enter Try.func21, Try.ntmps21
    go_wp2_with fail
    with_reducible refine hf.mono ?_
    rintro e w5 ⟨A5, n5, c5, xs, rfl, ho5, hob5, hx5, hb5⟩
    have HO := hidT ho5
    have HX := hidT hx5
    clear ho5 hf hx5
    go_wp2
    go_ret2
    exact ⟨A5, _, c5, xs, rfl, OwnV.rdb HO.out hob5, HX.out, hb5⟩
  clear hf
  go_enter Try.func13, Try.ntmps13
  go_wp2_with fail
  with_reducible refine hp.mono ?_
  intro e w5 hG
  obtain ⟨A5, n5, c5, xs, rfl, h5⟩ := id hG
  clear hp h5
  go_wp2
  go_ret2
  exact hG

/-- The code that an offer is answered by, and the row. -/
def offC (k m : Nat) (room most : Int) : Int := if most < (m : Int) then 5 else if room ≤ (k : Int) then 4 else 0
def offL (ls : List (List UInt8)) (b : List UInt8) (k : Int) : List (List UInt8) := if k = 0 then ls ++ [b] else ls

set_option maxHeartbeats 1000000 in
theorem off_long (A : Option Addr) (n c : Nat) (rs : List Bw) (B : Option Addr) (m d : Nat) (b : List UInt8) (room most : Int) (w : World) (h : RdB w A n c rs) (hf : Few rs) (hm : most < (m : Int)) :
    Calls Try.prog 9 #[.slice A n c, .slice B m d, .int .i64 room, .int .i64 most] w (OfferIs w (rs.map Bw.b) 5) := by
  have hp := all_any A n c rs w h hf
  have q1 : decide (most < (m : Int)) = true := by simpa using hm
  clear h hf
  go_enter Try.func9, Try.ntmps9
  go_wp2_with fail
  with_reducible refine hp.mono ?_
  rintro e w5 ⟨A5, n5, c5, xs, rfl, ho5, hob5, hx5, hb5⟩
  have HO := hidT ho5
  have HX := hidT hx5
  clear ho5 hx5 hp
  go_wp2
  go_ret2
  exact ⟨A5, n5, c5, xs, rfl, HO.out, hob5, HX.out, hb5⟩
set_option maxHeartbeats 1000000 in
theorem off_full (A : Option Addr) (n c : Nat) (rs : List Bw) (B : Option Addr) (m d : Nat) (b : List UInt8) (room most : Int) (w : World) (h : RdB w A n c rs) (hf : Few rs) (hm : (m : Int) ≤ most) (hr : room ≤ (n : Int)) :
    Calls Try.prog 9 #[.slice A n c, .slice B m d, .int .i64 room, .int .i64 most] w (OfferIs w (rs.map Bw.b) 4) := by
  have hp := all_any A n c rs w h hf
  have q1 : decide (most < (m : Int)) = false := by simp; omega
  have q2 : decide (room ≤ (n : Int)) = true := by simpa using hr
  clear h hf
  go_enter Try.func9, Try.ntmps9
  go_wp2_with fail
  with_reducible refine hp.mono ?_
  rintro e w5 ⟨A5, n5, c5, xs, rfl, ho5, hob5, hx5, hb5⟩
  have HO := hidT ho5
  have HX := hidT hx5
  clear ho5 hx5 hp
  go_wp2
  go_ret2
  exact ⟨A5, n5, c5, xs, rfl, HO.out, hob5, HX.out, hb5⟩
set_option maxHeartbeats 2000000 in
theorem off_ok (A : Option Addr) (n c : Nat) (rs : List Bw) (B : Option Addr) (m d : Nat) (b : List UInt8) (room most : Int) (w : World) (h : RdB w A n c rs) (hf : Few rs) (hb : Rd w B m d b) (hm6 : m ≤ 65536) (hm : (m : Int) ≤ most) (hr : (n : Int) < room) :
    Calls Try.prog 9 #[.slice A n c, .slice B m d, .int .i64 room, .int .i64 most] w (OfferIs w (rs.map Bw.b ++ [b]) 0) := by
  have hp := all_any A n c rs w h hf
  have q1 : decide (most < (m : Int)) = false := by simp; omega
  have q2 : decide (room ≤ (n : Int)) = false := by simp; omega
  have hsz := h.size
  have hle : n ≤ 200 := by have := hf.1; omega
  clear h hf
  go_enter Try.func9, Try.ntmps9
  go_wp2_with fail
  with_reducible refine hp.mono ?_
  rintro e w5 ⟨A5, n5, c5, xs, rfl, ho5, hob5, hx5, hb5⟩
  have hn5 : n5 = n := by
    have h1 := OwnV.size ho5
    rw [List.length_map] at h1
    have h2 := congrArg List.length hx5
    rw [List.length_map, List.length_map] at h2
    omega
  subst hn5
  have hq := clone_any B m d b w5 (hb.below hb5) hm6
  have HO := hidT ho5
  have HX := hidT hx5
  have HB5 := hidT hb5
  have HOB := hidT hob5
  clear ho5 hx5 hp hb5 hob5 hb hsz
  go_wp2_with fail
  with_reducible refine hq.mono ?_
  rintro e w6 ⟨A6, c6, rfl, ho6, hb6⟩
  clear hq
  have hO6 := OwnV.later HO.out hb6
  have hOB6 := HOB.out.later hb6
  have hB6 := bthen HB5.out hb6
  have HC6 := hidT (ho6.mono HB5.out.size)
  clear ho6 hb6
  go_wp2_with (
    at_builtin
    refine wpList_appV rfl (.tmp 26) (.tmp 29) 22 rfl w.heap.size 23 (.slice none 0 0) 24 infoS rfl (by omega) Try.underlying22 (.slice A5 n5 c5) n5 (xs.map Bw.val) rfl ?own (some ⟨w6.heap.size, 0, none⟩) 1 1 [.slice A6 b.length c6] rfl ?rd ?one ?h63 ?hb ?_
    case own => exact OwnV.later hO6 (nkeep _ _)
    case rd => exact RdV.lit _ _ _ _ _ rfl 1 rfl (by simp only [maxLen]; omega) _ rfl
    case one => intro u hu; rw [List.mem_singleton] at hu; subst hu; rfl
    case h63 => omega
    case hb => have := (bthen hB6 (nkeep w6 (.cells #[.slice A6 b.length c6] 23))).size; exact this
    intro v1 w7 hown hbel hgrow)
  have hO6' := OwnV.later hO6 (nkeep w6 (.cells #[.slice A6 b.length c6] 23))
  have hOB7 := OwnB.grown (hOB6.later (nkeep w6 (.cells #[.slice A6 b.length c6] 23))) hO6' hgrow
  have hC7 := OwnV.grown (HC6.out.later (nkeep w6 (.cells #[.slice A6 b.length c6] 23))) hO6' (by decide) hgrow
  have hB7 : Below w.heap.size w w7 := ((bthen hB6 (nkeep w6 (.cells #[.slice A6 b.length c6] 23))).trans hbel)
  obtain ⟨A7, c7, rfl, _⟩ := OwnV.rd hown
  go_ret2
  refine ⟨A7, n5 + 1, c7, xs ++ [⟨A6, b.length, c6, b⟩], rfl, ?_, OwnB.snoc (r := ⟨A6, b.length, c6, b⟩) hOB7 hC7, ?_, hB7⟩
  · rw [List.map_append]
    exact hown
  · rw [List.map_append, HX.out]
    rfl
/-- An offer, whatever it is. -/
theorem offer_any (A : Option Addr) (n c : Nat) (rs : List Bw) (B : Option Addr) (m d : Nat) (b : List UInt8) (room most : Int) (w : World) (h : RdB w A n c rs) (hf : Few rs) (hb : Rd w B m d b) (hm6 : m ≤ 65536) (k : Int) (hk : offC n m room most = k) (ls : List (List UInt8)) (hl : offL (rs.map Bw.b) b k = ls) :
    Calls Try.prog 9 #[.slice A n c, .slice B m d, .int .i64 room, .int .i64 most] w (OfferIs w ls k) := by
  subst hl
  subst hk
  unfold offC
  split
  · exact off_long A n c rs B m d b room most w h hf (by assumption)
  · split
    · exact off_full A n c rs B m d b room most w h hf (by omega) (by assumption)
    · exact off_ok A n c rs B m d b room most w h hf hb hm6 (by omega) (by omega)
end Go.Proofs.Ytileinmcnilajaa
