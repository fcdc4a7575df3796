/- What slices.Grow of nothing, slices.Concat of rows of items, and win's laid come to. -/
import Derived.Test.YtkkkfaelpmmffaaWin1
import Derived.Lib.AppendZeros
import Derived.Lib.SliceRun
import Derived.WalkMore
set_option maxRecDepth 100000
namespace Go.Proofs.Ytkkkfaelpmmffaa
open Go.RowKit
set_option linter.unusedVariables false

/-- A row of the call's own with room, of no item yet. -/
def RoomX (w : World) (e : Ending) (w' : World) : Prop := ∃ A c, e = .returned (.slice A 0 c) ∧ OwnK 8 w' w.heap.size 28 (.slice A 0 c) 0 [] ∧ Below w.heap.size w w'
theorem growX (n : Nat) (w : World) (hn : n ≤ 65536) : Calls Try.prog 58 #[.slice none 0 0, .int .i64 (n : Int)] w (RoomX w) := by
  by_cases h0 : n = 0
  · subst h0
    go_enter Try.func58, Try.ntmps58
    go_wp2
    go_ret
    exact ⟨none, 0, rfl, OwnK.nil_ _ _ _ _, Below.refl _ _⟩
  · obtain ⟨i0, hi0, hz0, hz1, hz2⟩ := info_parts info8
    have hrun := Lib.run_append_nil_zeros (P := Try.prog) w 22 3 0 28 i0 (.agg zcells) .i64 .i64 Try.underlying22 Try.underlying3 hi0 hz0 n (by omega) (by omega) (by omega) (by rw [hz2]; omega)
    have hge := grownCap_ge w n 0 28
    have hle := grownCap_le_maxLen w n 0 28 (by simp only [maxLen]; omega)
    generalize grownCap w n 0 28 = cap at hrun hge hle
    have hown : OwnK 8 (w.drew.alloc (.cells (Builtin.zeroCells (Value.agg zcells).cells n ++ Builtin.zeroCells (Value.agg zcells).cells (cap - n)) 28)) w.heap.size 28 (.slice (some ⟨w.heap.size, 0, none⟩) 0 cap) 0 [] := by
      refine ⟨AllK.nil_ 8, rfl, rfl, .inr ⟨w.heap.size, cap, _, rfl, Nat.le_refl _, heap_alloc_new w.drew _, Nat.zero_le _, hle, ?_, by simp [flat]⟩⟩
      rw [Array.size_append, size_zeroCells, size_zeroCells]
      show n * 8 + (cap - n) * 8 = cap * 8
      omega
    have hb : Below w.heap.size w (w.drew.alloc (.cells (Builtin.zeroCells (Value.agg zcells).cells n ++ Builtin.zeroCells (Value.agg zcells).cells (cap - n)) 28)) := (Below.refl _ _).drew.alloc (Nat.le_refl _) _
    generalize w.drew.alloc (.cells (Builtin.zeroCells (Value.agg zcells).cells n ++ Builtin.zeroCells (Value.agg zcells).cells (cap - n)) 28) = w1 at hrun hown hb
    go_enter Try.func58, Try.ntmps58
    go_wp2_with (
      at_builtin
      refine Lib.wpList_append_run _ rfl (.tmp 20) (.tmp 21) 22 3 rfl _ _ rfl rfl _ _ hrun ?_)
    go_ret
    exact ⟨_, _, rfl, hown, hb⟩

/-- Rows of items, one behind the other in a slice. -/
def RowsX (w : World) (vs : List Value) (ps : List (List (Array Value))) : Prop := vs.length = ps.length ∧ ∀ (i : Nat) (v : Value) (p : List (Array Value)), vs[i]? = some v → ps[i]? = some p → ∃ A n c, v = .slice A n c ∧ RdK 8 w A n c p
theorem RowsX.below {w w' : World} {vs : List Value} {ps : List (List (Array Value))} (h : RowsX w vs ps) (hb : Below w.heap.size w w') : RowsX w' vs ps := ⟨h.1, fun i v p h1 h2 => by
  obtain ⟨A, n, c, e, hr⟩ := h.2 i v p h1 h2
  exact ⟨A, n, c, e, hr.below hb⟩⟩
theorem flat_more {ps : List (List (Array Value))} {j : Nat} {p : List (Array Value)} (hp : ps[j]? = some p) : (ps.take (j + 1)).flatten = (ps.take j).flatten ++ p := by
  rw [List.take_add_one, hp]
  simp
theorem flat_part (ps : List (List (Array Value))) (j : Nat) : (ps.take j).flatten.length ≤ ps.flatten.length := by
  conv => rhs; rw [← List.take_append_drop j ps]
  rw [List.flatten_append, List.length_append]
  omega
/-- One of the rows. -/
theorem RowsX.at_ {w : World} {A : Option Addr} {m c : Nat} {vs : List Value} {ps : List (List (Array Value))} (h : RowsX w vs ps) (hr : RdV w A m c vs) {j : Nat} (hj : j < m) :
    ∃ b o B n d p, A = some ⟨b, o, none⟩ ∧ ps[j]? = some p ∧ w.cell? ⟨b, o + j, none⟩ = some (.slice B n d) ∧ RdK 8 w B n d p := by
  obtain ⟨b, o, u, hA, hu, hc⟩ := RdV.at_ hr hj
  have hl : j < ps.length := by rw [← h.1, hr.1]; exact hj
  obtain ⟨B, n, d, e, hk⟩ := h.2 j u _ hu (List.getElem?_eq_getElem hl)
  subst e
  exact ⟨b, o, B, n, d, _, hA, List.getElem?_eq_getElem hl, hc, hk⟩
def ConcatIs (w : World) (rs : List (Array Value)) (e : Ending) (w' : World) : Prop := ∃ B n d, e = .returned (.slice B n d) ∧ OwnK 8 w' w.heap.size 28 (.slice B n d) n rs ∧ Below w.heap.size w w'
set_option maxHeartbeats 2000000 in
theorem concatX (A : Option Addr) (m c : Nat) (vs : List Value) (ps : List (List (Array Value))) (w : World) (h : RdV w A m c vs) (hp : RowsX w vs ps) (hn : ps.flatten.length ≤ 65536) :
    Calls Try.prog 42 #[.slice A m c] w (ConcatIs w ps.flatten) := by
  have hm := RdV.le h
  have HLEN : Hid (ps.length = m) := hidT (by rw [← hp.1, h.1])
  have H := hidT h
  have HP := hidT hp
  have HN := hidT hn
  clear h hp hn
  go_enter Try.func42, Try.ntmps42
  go_wp2
  go_loopw [3, 11] (fun sz i wr => ∃ j L : Nat, j ≤ m ∧ L ≤ 65536 ∧ i = .int .i64 j ∧ sz = .int .i64 L ∧ Hid ((ps.take j).flatten.length = L) ∧ w = wr) (fun _ i _ => m - (intOf i).toNat)
  case atStart => exact ⟨0, 0, Nat.zero_le _, Nat.zero_le _, rfl, rfl, hidT (by simp), rfl⟩
  case round =>
    obtain ⟨j, L, hj, hL, rfl, rfl, HL, rfl⟩ := hrel
    by_cases hjm : j < m
    · obtain ⟨b, o, B, n, d, p, rfl, hpj, hc, hk⟩ := HP.out.at_ H.out hjm
      have hl : (ps.take (j + 1)).flatten.length = L + n := by rw [flat_more hpj, List.length_append, HL.out, hk.size]
      have hb : L + n ≤ 65536 := by have := flat_part ps (j + 1); have := HN.out; omega
      have HL' := hidT hl
      have x1 : (0 : Int) ≤ (j : Int) := by omega
      have x2 : (j : Int) < (m : Int) := by omega
      have q1 : decide ((L : Int) + (n : Int) < 0) = false := by simp; omega
      clear hk hpj hl
      go_wp2
      exact ⟨⟨j + 1, L + n, by omega, hb, by go_num, by go_num, HL', trivial⟩, by simp [intOf]; omega⟩
    · obtain rfl : m = j := by omega
      have hfl : ps.flatten.length = L := by rw [← HL.out, List.take_of_length_le (by rw [HLEN.out]; exact Nat.le_refl _)]
      have hg := growX L w hL
      have HFL := hidT hfl
      clear hfl
      go_wp2_with fail
      with_reducible refine hg.mono ?_
      rintro e w1 ⟨R, rc, rfl, ho, hb1⟩
      have HO1 := hidT ho
      have HB1 := hidT hb1
      clear ho hb1 hg
      go_wp2
      go_loopw [6, 27] (fun v i wr => ∃ (j L2 : Nat) (B : Option Addr) (d : Nat), j ≤ m ∧ i = .int .i64 j ∧ v = .slice B L2 d ∧ Hid (OwnK 8 wr w.heap.size 28 (.slice B L2 d) L2 (ps.take j).flatten) ∧ Hid (Below w.heap.size w wr)) (fun _ i _ => m - (intOf i).toNat)
      case atStart => exact ⟨0, 0, R, rc, Nat.zero_le _, rfl, rfl, hidT (by simpa using HO1.out), HB1⟩
      case round =>
        obtain ⟨j, L2, B2, d2, hj2, rfl, rfl, HO, HB⟩ := hrel
        by_cases hjm : j < m
        · obtain ⟨b, o, B, n, d, p, rfl, hpj, hc, hk⟩ := HP.out.at_ H.out hjm
          have hc2 := (HB.out.cell (World.block_lt_of_cell? _ _ hc)).trans hc
          have hfm := flat_more hpj
          have hb : L2 + n ≤ 65536 := by
            have h1 := flat_part ps (j + 1)
            have h2 := HN.out
            rw [hfm, List.length_append, HO.out.2.1, hk.size] at h1
            omega
          have HK := hidT (hk.below HB.out)
          have HFM := hidT hfm
          have x1 : (0 : Int) ≤ (j : Int) := by omega
          have x2 : (j : Int) < (m : Int) := by omega
          clear hk hpj hfm hc
          go_wp2_with (
            at_builtin
            refine wpList_appK 8 (by omega) rfl (.tmp 31) (.tmp 32) 22 rfl w.heap.size 28 _ 96 info8 rfl (by omega) Try.underlying22 (.slice B2 L2 d2) L2 (ps.take j).flatten rfl HO.out B n d p rfl HK.out (by omega) HB.out.size ?_
            intro v9 w9 hO9 hb9 hg9)
          obtain ⟨A9, c9, rfl, _⟩ := OwnK.rd hO9
          rw [← HFM.out] at hO9
          exact ⟨⟨j + 1, L2 + n, A9, c9, by omega, by go_num, rfl, hidT hO9, hidT (HB.out.trans hb9)⟩, by simp [intOf]; omega⟩
        · obtain rfl : m = j := by omega
          go_wp2
          go_ret
          have hO := HO.out
          rw [List.take_of_length_le (by rw [HLEN.out]; exact Nat.le_refl _)] at hO
          exact ⟨B2, L2, d2, rfl, hO, HB.out⟩

/-- A slice of items whose memory is the call's own. -/
def LaidIs (w : World) (xs : List Item.It) (e : Ending) (w' : World) : Prop :=
  ∃ A n c us, e = .returned (.slice A n c) ∧ RdK 8 w' A n c us ∧ (∀ b o, A = some ⟨b, o, none⟩ → w.heap.size ≤ b) ∧ AreF w' w.heap.size us xs ∧ Below w.heap.size w w'
set_option maxHeartbeats 4000000 in
theorem laid_any (A : Option Addr) (m c : Nat) (vs : List Value) (ps : List (List (Array Value))) (xs : List Item.It) (w : World) (h : RdV w A m c vs) (hp : RowsX w vs ps) (hI : AreI w ps.flatten xs) (hS : SmallL xs) :
    Calls Try.prog 33 #[.slice A m c] w (LaidIs w xs) := by
  have hc := concatX A m c vs ps w h hp (by rw [hI.1]; exact hS.1)
  obtain ⟨rs, hrs⟩ : ∃ rs, ps.flatten = rs := ⟨_, rfl⟩
  rw [hrs] at hc hI
  have HC := hidT hc
  have HI := hidT hI
  have HSM := hidT hS
  clear h hp hI hS hc hrs
  go_enter Try.func33, Try.ntmps33
  go_wp2_with fail
  with_reducible refine HC.out.mono ?_
  rintro e w1 ⟨B, n, d, rfl, ho1, hb1⟩
  have hrl : rs.length = n := ho1.2.1
  have hn : n ≤ 65536 := by rw [← hrl, HI.out.1]; exact HSM.out.1
  have HO1 := hidT ho1
  have HB1 := hidT hb1
  have HBL : Hid (∀ b o, B = some ⟨b, o, none⟩ → b < w1.heap.size) := hidT fun b o hA => (ho1.addr b o hA).2
  have HRL := hidT hrl
  clear ho1 hb1 hrl HC
  go_wp2
  go_loopw [10] (fun i wr => ∃ (j : Nat) (us : List (Array Value)), j ≤ n ∧ i = .int .i64 j ∧ Hid (OwnK 8 wr w.heap.size 28 (.slice B n d) n us) ∧ Hid (HalfF w wr w1.heap.size j us rs xs) ∧ Hid (w1.heap.size ≤ wr.heap.size) ∧ Hid (Below w.heap.size w wr)) (fun i _ => n - (intOf i).toNat)
  case atStart => exact ⟨0, rs, Nat.zero_le _, rfl, HO1, hidT ⟨fun _ _ => rfl, HI.out.1, fun i r x hi => absurd hi (by omega)⟩, hidT (Nat.le_refl _), HB1⟩
  case round =>
    obtain ⟨j, us, hj, rfl, HO, HH, HL, HB⟩ := hrel
    by_cases hjn : j < n
    · obtain ⟨gB, rfl, hgB, hgBl⟩ := HO.out.form (by omega)
      have hgB1 := HBL.out gB 0 rfl
      have hjl : j < xs.length := by rw [← HI.out.1, HRL.out]; exact hjn
      obtain ⟨x, hx⟩ : ∃ x, xs[j]? = some x := ⟨_, List.getElem?_eq_getElem hjl⟩
      have hjr : j < rs.length := by rw [HRL.out]; exact hjn
      obtain ⟨r, hr⟩ : ∃ r, rs[j]? = some r := ⟨_, List.getElem?_eq_getElem hjr⟩
      have hu : us[j]? = some r := (HH.out.1 j (Nat.le_refl _)).trans hr
      have hi := HI.out.2 j r x hr hx
      have hsm := HSM.out.2 x (List.mem_of_getElem? hx)
      obtain ⟨LA, ln, lc, BA, bn, bc, e, hl, hb⟩ := id hi
      injection e with e
      subst e
      have HOWN : Hid (∀ w', Below w.heap.size w w' → Calls Try.prog 35 #[.agg #[.int .i64 x.k, .int .i64 x.q, .int .i64 x.e, .int .i64 x.i, .int .i64 x.t, .int .i64 x.c, .slice LA ln lc, .slice BA bn bc]] w' (OwnIs w' x)) :=
        hidT fun w' hb' => wown_any _ x w' (hi.below hb') hsm.1 hsm.2
      have hc : ∀ (i : Nat) (u : Value), (#[.int .i64 x.k, .int .i64 x.q, .int .i64 x.e, .int .i64 x.i, .int .i64 x.t, .int .i64 x.c, .slice LA ln lc, .slice BA bn bc] : Array Value)[i]? = some u → wr.cell? ⟨gB, 0 + j * 8 + i, none⟩ = some u := fun i u hh => HO.out.same.cell hu hh
      have c0 := hc 0 _ rfl
      have c1 := hc 1 _ rfl
      have c2 := hc 2 _ rfl
      have c3 := hc 3 _ rfl
      have c4 := hc 4 _ rfl
      have c5 := hc 5 _ rfl
      have c6 := hc 6 _ rfl
      have c7 := hc 7 _ rfl
      simp only [Nat.zero_add, Nat.add_zero] at c0 c1 c2 c3 c4 c5 c6 c7
      have x1 : (0 : Int) ≤ (j : Int) := by omega
      have x2 : (j : Int) < (n : Int) := by omega
      have HX := hidT hx
      have HU := hidT hu
      clear hc hx hu hr hi hsm hl hb hjl hjr
      go_wp2_with fail
      have n4 := nkeep wr (.cells #[.int .i64 x.k, .int .i64 x.q, .int .i64 x.e, .int .i64 x.i, .int .i64 x.t, .int .i64 x.c, .slice LA ln lc, .slice BA bn bc] 28)
      have N4 := hidT n4
      clear n4 c0 c1 c2 c3 c4 c5 c6 c7
      generalize wr.alloc (.cells #[.int .i64 x.k, .int .i64 x.q, .int .i64 x.e, .int .i64 x.i, .int .i64 x.t, .int .i64 x.c, .slice LA ln lc, .slice BA bn bc] 28) = w4 at *
      with_reducible refine (HOWN.out _ (bthen HB.out N4.out)).mono ?_
      rintro e5 w5 ⟨v5, rfl, hF5, hb5⟩
      obtain ⟨r5, rfl, hs5, ha5⟩ := hF5.cells
      obtain ⟨w6, hrun6, ho6, hbut6, hbel6⟩ := OwnK.setAt (P := Try.prog) (HO.out.later (bthen N4.out hb5)) hjn r5 hs5 ha5
      have hlo := HL.out
      have hb45 := bthen N4.out hb5
      have YO := hidT ho6
      have hsz4 := N4.out.size
      have hsz5 : w4.heap.size ≤ w5.heap.size := hb5.size
      have hF6 : FrI w6 w1.heap.size (.agg r5) x := (hF5.mono (show w1.heap.size ≤ w4.heap.size by omega)).but hgB1 hbut6
      have YH := hidT (HH.out.next (fun v y hv => (hv.below hb45).but hgB1 hbut6) HX.out hF6)
      have YL := hidT (show w1.heap.size ≤ w6.heap.size by rw [hbut6.1]; omega)
      have YB := hidT (hbel6 _ _ (bthen HB.out hb45) hgB)
      clear hF6 hsz4 hsz5 hb45 hlo hbut6 hbel6 hF5 hb5 ho6
      go_wp2
      exact ⟨⟨j + 1, us.set j r5, by omega, by go_num, YO, YH, YL, YB⟩, by simp [intOf]; omega⟩
    · obtain rfl : n = j := by omega
      go_wp2
      go_ret
      exact ⟨B, n, d, us, rfl, HO.out.same, fun b o e => (HO.out.addr b o e).1, (HH.out.all HO.out.2.1).mono HB1.out.size, HB.out⟩
end Go.Proofs.Ytkkkfaelpmmffaa
