import Derived.Test.YtahkhideepncfaaDoorMA
import Derived.Test.YtahkhideepncfaaDoorBA
import Derived.WalkKit
import Derived.WalkLawsBesides
import Derived.Laws.Rows
import Derived.IntWalk
import Derived.Lib.SliceRun
import Derived.ScopeJumps
import Derived.WalkMore
import Derived.LaidMore
import Derived.Lib.AppendZeros
import Derived.LoopN
set_option maxRecDepth 100000
/- What num's bound, Fits, PutRow and Put come to, where the package variable 'widths' holds what the program's text lays there. -/
namespace Go.Proofs.YtahkhideepncfaaDoor
open Go.RowKit
set_option linter.unusedVariables false

/-- The table of widths, cell by cell. -/
abbrev wcells : Array Value := #[.int .i64 1, .int .i64 255, .int .i64 2, .int .i64 65535, .int .i64 8, .int .i64 4611686018427387904]
/-- The package variable 'widths' holds its table. -/
def Wd (w : World) : Prop := ∃ t fr, w.heap[(0 : Nat)]? = some (.cells wcells t fr)
theorem Wd.below {w w' : World} (h : Wd w) (hb : Below w.heap.size w w') : Wd w' := by
  obtain ⟨t, fr, hh⟩ := h
  refine ⟨t, fr, ?_⟩
  rw [hb.block _ ?_, hh]
  rcases Nat.lt_or_ge (0 : Nat) w.heap.size with hlt | hge
  · exact hlt
  · rw [Array.getElem?_eq_none hge] at hh; cases hh
theorem Wd.drew {w : World} (h : Wd w) : Wd w.drew := h
theorem Wd.drewN {w : World} (h : Wd w) (k : Nat) : Wd (w.drewN k) := h
theorem Wd.alloc {w : World} (h : Wd w) (o : Obj) : Wd (w.alloc o) := h.below ((Below.refl _ _).alloc (Nat.le_refl _) o)

theorem ix0 (w : World) : (Instr.index 92 (.agg wcells) (.int .i64 0)).run Tryd.prog w = .ok (.agg #[.int .i64 1, .int .i64 255]) w := by kernel_rfl
theorem ix1 (w : World) : (Instr.index 92 (.agg wcells) (.int .i64 1)).run Tryd.prog w = .ok (.agg #[.int .i64 2, .int .i64 65535]) w := by kernel_rfl
theorem ix2 (w : World) : (Instr.index 92 (.agg wcells) (.int .i64 2)).run Tryd.prog w = .ok (.agg #[.int .i64 8, .int .i64 4611686018427387904]) w := by kernel_rfl

def BoundIs (w : World) (m : Int) (b : Bool) (e : Ending) (w' : World) : Prop := e = .returned (.tuple #[.int .i64 m, .bool b]) ∧ Below w.heap.size w w'

set_option maxHeartbeats 1000000 in
theorem bound_no (k : Int) (w : World) (hw : Wd w) (h : Num.most k < 0) :
    Calls Tryd.prog 46 #[.int .i64 k] w (BoundIs w 0 false) := by
  obtain ⟨t, fr, hg⟩ := hw
  obtain ⟨h1, h2, h8⟩ : k ≠ 1 ∧ k ≠ 2 ∧ k ≠ 8 := by
    rcases Num.most_cases k with ⟨_, e⟩ | ⟨_, e⟩ | ⟨_, e⟩ | ⟨a, b, c, _⟩
    · omega
    · omega
    · omega
    · exact ⟨a, b, c⟩
  have q1 : ((1 : Int) == k) = false := by simp; omega
  have q2 : ((2 : Int) == k) = false := by simp; omega
  have q8 : ((8 : Int) == k) = false := by simp; omega
  clear h h1 h2 h8
  go_enter Tryd.func46, Tryd.ntmps46
  go_wp2_with (refine wpList_load_row rfl 92 _ rfl 0 rfl t wcells fr _ hg Tryd.underlying92 rfl (by kernel_rfl) ?_)
  go_loopw [7] (fun i w' => ∃ j : Nat, j ≤ 3 ∧ i = .int .i64 j ∧ Below w.heap.size w w') (fun i _ => 3 - (intOf i).toNat)
  case atStart => exact ⟨0, Nat.zero_le _, rfl, Below.refl _ _⟩
  case round =>
    obtain ⟨j, hj, rfl, hb⟩ := hrel
    have hs := hb.size
    by_cases hj3 : j < 3
    · obtain rfl | rfl | rfl : j = 0 ∨ j = 1 ∨ j = 2 := by omega
      · have hx := ix0
        go_wp2
        go_roundw
        case rel => exact ⟨1, by omega, by go_num, hb.alloc hs _⟩
        case measure => simp [intOf]
      · have hx := ix1
        go_wp2
        go_roundw
        case rel => exact ⟨2, by omega, by go_num, hb.alloc hs _⟩
        case measure => simp [intOf]
      · have hx := ix2
        go_wp2
        go_roundw
        case rel => exact ⟨3, by omega, by go_num, hb.alloc hs _⟩
        case measure => simp [intOf]
    · obtain rfl : j = 3 := by omega
      go_wp2
      go_ret2
      exact ⟨rfl, hb⟩

set_option maxHeartbeats 1000000 in
theorem bound_yes (k : Nat) (w : World) (hw : Wd w) (h : Num.IsW k) :
    Calls Tryd.prog 46 #[.int .i64 (k : Int)] w (BoundIs w (Num.most k) true) := by
  obtain ⟨t, fr, hg⟩ := hw
  have hx0 := ix0
  have hx1 := ix1
  have hx2 := ix2
  rcases h with rfl | rfl | rfl
  · show Calls Tryd.prog 46 #[.int .i64 1] w (BoundIs w 255 true)
    go_enter Tryd.func46, Tryd.ntmps46
    go_wp2_with (refine wpList_load_row rfl 92 _ rfl 0 rfl t wcells fr _ hg Tryd.underlying92 rfl (by kernel_rfl) ?_)
    refine wp_loop_rounds 1 ?_
    rw [rounds_succ]
    go_wp2
    go_ret2
    exact ⟨rfl, (Below.refl _ _).alloc (Nat.le_refl _) _⟩
  · show Calls Tryd.prog 46 #[.int .i64 2] w (BoundIs w 65535 true)
    go_enter Tryd.func46, Tryd.ntmps46
    go_wp2_with (refine wpList_load_row rfl 92 _ rfl 0 rfl t wcells fr _ hg Tryd.underlying92 rfl (by kernel_rfl) ?_)
    refine wp_loop_rounds 2 ?_
    rw [rounds_succ]
    go_wp2
    rw [rounds_succ]
    go_wp2
    go_ret2
    exact ⟨rfl, ((Below.refl _ _).alloc (Nat.le_refl _) _).alloc (by simp) _⟩
  · show Calls Tryd.prog 46 #[.int .i64 8] w (BoundIs w 4611686018427387904 true)
    go_enter Tryd.func46, Tryd.ntmps46
    go_wp2_with (refine wpList_load_row rfl 92 _ rfl 0 rfl t wcells fr _ hg Tryd.underlying92 rfl (by kernel_rfl) ?_)
    refine wp_loop_rounds 3 ?_
    rw [rounds_succ]
    go_wp2
    rw [rounds_succ]
    go_wp2
    rw [rounds_succ]
    go_wp2
    go_ret2
    exact ⟨rfl, (((Below.refl _ _).alloc (Nat.le_refl _) _).alloc (by simp) _).alloc (by simp; omega) _⟩

theorem fits_is (n k : Int) (b : Bool) (w : World) (hw : Wd w) (h : Num.fits n k = b) :
    Calls Tryd.prog 56 #[.int .i64 n, .int .i64 k] w fun e w' => e = .returned (.bool b) ∧ Below w.heap.size w w' := by
  by_cases hk : Num.most k < 0
  · have hb : b = false := by
      rw [← h]
      simp only [Num.fits, Bool.and_eq_false_iff, decide_eq_false_iff_not]
      omega
    subst hb
    clear h
    go_enter Tryd.func56, Tryd.ntmps56
    go_wp2_with fail
    with_reducible refine (bound_no k _ hw hk).mono ?_
    rintro e w1 ⟨rfl, hb1⟩
    go_wp2
    go_ret
    exact ⟨rfl, hb1⟩
  · obtain ⟨j, rfl, hj⟩ := Num.isW_of hk
    by_cases h0 : 0 ≤ n
    · by_cases h1 : n ≤ Num.most j
      · have hb : b = true := by
          rw [← h]
          simp only [Num.fits, Bool.and_eq_true, decide_eq_true_eq]
          omega
        subst hb
        have q0 : decide (0 ≤ n) = true := by simpa using h0
        have q1 : decide (n ≤ Num.most j) = true := by simpa using h1
        clear h
        go_enter Tryd.func56, Tryd.ntmps56
        go_wp2_with fail
        with_reducible refine (bound_yes j _ hw hj).mono ?_
        rintro e w1 ⟨rfl, hb1⟩
        go_wp2
        go_ret
        exact ⟨rfl, hb1⟩
      · have hb : b = false := by
          rw [← h]
          simp only [Num.fits, Bool.and_eq_false_iff, decide_eq_false_iff_not]
          omega
        subst hb
        have q0 : decide (0 ≤ n) = true := by simpa using h0
        have q1 : decide (n ≤ Num.most j) = false := by simpa using h1
        clear h
        go_enter Tryd.func56, Tryd.ntmps56
        go_wp2_with fail
        with_reducible refine (bound_yes j _ hw hj).mono ?_
        rintro e w1 ⟨rfl, hb1⟩
        go_wp2
        go_ret
        exact ⟨rfl, hb1⟩
    · have hb : b = false := by
        rw [← h]
        simp only [Num.fits, Bool.and_eq_false_iff, decide_eq_false_iff_not]
        omega
      subst hb
      have q0 : decide (0 ≤ n) = false := by simpa using h0
      clear h
      go_enter Tryd.func56, Tryd.ntmps56
      go_wp2_with fail
      with_reducible refine (bound_yes j _ hw hj).mono ?_
      rintro e w1 ⟨rfl, hb1⟩
      go_wp2
      go_ret
      exact ⟨rfl, hb1⟩

/-- The bytes of the first so many numbers. -/
def upTo (l : List Int) (k : Int) (j : Nat) : List UInt8 := ((l.take j).map fun n => Num.put n k).flatten
theorem upTo_succ {l : List Int} {k : Int} {j : Nat} {x : Int} (h : l[j]? = some x) : upTo l k (j + 1) = upTo l k j ++ Num.put x k := by
  unfold upTo
  rw [List.take_add_one, h]
  simp
theorem upTo_length {l : List Int} {k : Int} (j : Nat) : (upTo l k j).length ≤ 8 * j := by
  unfold upTo
  induction j with
  | zero => simp
  | succ j ih =>
    rw [List.take_add_one, List.map_append, List.flatten_append, List.length_append]
    have : (List.map (fun n => Num.put n k) l[j]?.toList).flatten.length ≤ 8 := by
      cases l[j]? with
      | none => simp
      | some x =>
        simp
        by_cases hf : Num.fits x k = true
        · obtain ⟨m, rfl, hm⟩ := Num.fits_width hf
          rw [Num.put_length hf]
          have := hm.pos
          omega
        · rw [Num.put_not (by simpa using hf)]; simp
    omega

theorem byte_shr (x j : Nat) : (x : Int) / 2 ^ (8 * j) % 256 = ((UInt8.ofNat (x / 256 ^ j)).toNat : Int) := by
  have e : (2 : Int) ^ (8 * j) = ((256 ^ j : Nat) : Int) := by
    rw [show (256 : Nat) = 2 ^ 8 from rfl, ← Nat.pow_mul, Int.natCast_pow]
    rfl
  rw [Num.u8_ofNat, e]
  omega
theorem cell_shr (x j : Nat) : #[Value.int .u8 ((x : Int) / 2 ^ (8 * j) % 256)] = (bs [UInt8.ofNat (x / 256 ^ j)]).toArray := by
  rw [byte_shr]
  rfl
theorem put_take_succ {x k m : Nat} (hk : Num.IsW k) (h : Num.fits x k = true) (hm : m < k) : (Num.put x k).take (m + 1) = (Num.put x k).take m ++ [UInt8.ofNat (x / 256 ^ (k - 1 - m))] := by
  have := Num.be_get x hm
  rw [Num.put, if_pos h, Int.toNat_natCast, Int.toNat_natCast, List.take_add_one, this]
  rfl

set_option maxHeartbeats 1000000 in
theorem putRow_fit (A : Option Addr) (n c : Nat) (l : List Int) (k : Nat) (w : World) (hw : Wd w) (h : RdI w A n c l) (hk : Num.IsW k) (hn : n ≤ 65536) :
    Calls Tryd.prog 36 #[.slice A n c, .int .i64 (k : Int)] w (Gives w 5 (Num.putRow l k)) := by
  have hk8 := hk.pos
  go_enter Tryd.func36, Tryd.ntmps36
  go_wp2
  go_loopw [5, 11] (fun v i w' => ∃ j : Nat, j ≤ n ∧ i = .int .i64 j ∧ ((l.take j).all fun n => Num.fits n k) = true ∧ Own w' w.heap.size 5 v (upTo l k j).length (upTo l k j) ∧ Below w.heap.size w w') (fun _ i _ => n - (intOf i).toNat)
  case atStart => exact ⟨0, Nat.zero_le _, rfl, rfl, World.ownsRow_nil _ _ _ _, Below.refl _ _⟩
  case round =>
    obtain ⟨j, hj, rfl, hall, hown, hb⟩ := hrel
    have HA := hidT hall
    have hUL := upTo_length (l := l) (k := (k : Int)) j
    clear hall
    by_cases hjn : j < n
    · obtain ⟨b, o, x, rfl, hx, hc⟩ := RdI.at_ (RdV.below h hb) hjn
      have HX := hidT hx
      clear hx
      by_cases hf : Num.fits x k = true
      · go_wp2_with fail
        with_reducible refine (fits_is x k true _ (hw.below hb) hf).mono ?_
        rintro e w1 ⟨rfl, hb1⟩
        have ho1 := Own.later hown hb1
        obtain ⟨xn, rfl, hxn, hxm, hx62⟩ := Num.fits_nat hk hf
        have HF := hidT hf
        clear hf hxn hxm
        have hb01 := bthen hb hb1
        go_wp2
        go_loopw [5, 8] (fun v i w' => ∃ m : Nat, m ≤ k ∧ i = .int .i64 ((k : Int) - 1 - m) ∧ Own w' w.heap.size 5 v ((upTo l k j).length + m) (upTo l k j ++ (Num.put xn k).take m) ∧ Below w.heap.size w w') (fun _ i _ => (intOf i + 1).toNat)
        case atStart => exact ⟨0, Nat.zero_le _, by simp, by simpa using ho1, hb01⟩
        case round =>
          obtain ⟨m, hm, rfl, hown2, hb2⟩ := hrel
          by_cases hmk : m < k
          · have q1 : decide ((0 : Int) ≤ (k : Int) - 1 - m) = true := by simp; omega
            have HT := hidT (put_take_succ (x := xn) hk HF.out hmk)
            have HB := hidT (cell_shr xn (k - 1 - m))
            go_wp2_with (
              at_builtin
              refine wpList_app rfl (.tmp 25) (.tmp 31) 23 rfl w.heap.size 5 info5 Tryd.underlying23 _ ((upTo l k j).length + m) (upTo l k j ++ (Num.put xn k).take m) rfl ?own _ 1 1 [UInt8.ofNat (xn / 256 ^ (k - 1 - m))] rfl ?rd ?h63 ?hb ?_
              case own => exact Own.later hown2 ((Below.refl _ _).alloc (Nat.le_refl _) _)
              case rd => exact Rd.litAt _ _ _ _ _ HB.out 1 rfl (by decide) _ rfl
              case h63 => omega
              case hb => exact Nat.le_trans hb2.size (by simp)
              intro v3 w3 hown3 hb3)
            go_roundw
            case rel =>
              refine ⟨m + 1, by omega, by go_num, ?_, (hb2.alloc hb2.size _).trans hb3⟩
              rw [HT.out, ← List.append_assoc]
              exact hown3
            case measure => simp [intOf]; omega
          · have q1 : decide ((0 : Int) ≤ (k : Int) - 1 - m) = false := by simp; omega
            have hmk2 : m = k := by omega
            subst hmk2
            have HS : Hid (upTo l m (j + 1) = upTo l m j ++ (Num.put xn m).take m) := by
              rw [upTo_succ HX.out, List.take_of_length_le (by rw [Num.put_length HF.out]; simp)]
              exact hidT rfl
            have HL : Hid ((upTo l m (j + 1)).length = (upTo l m j).length + m) := by
              rw [upTo_succ HX.out, List.length_append, Num.put_length HF.out]
              exact hidT (by simp)
            have HA2 : Hid (((l.take (j + 1)).all fun n => Num.fits n m) = true) := by
              rw [List.take_add_one, List.all_append, HA.out, HX.out]
              exact hidT (by simpa using HF.out)
            go_wp2
            go_roundw
            case rel =>
              refine ⟨j + 1, by omega, by go_num, HA2.out, ?_, hb2⟩
              rw [HL.out, HS.out]
              exact hown2
            case measure => simp [intOf]; omega
      · have hf2 : Num.fits x k = false := by simpa using hf
        have HP : Hid (Num.putRow l k = []) := by
          unfold Num.putRow
          rw [if_neg ?_]
          · exact hidT rfl
          · intro hh
            rw [List.all_eq_true] at hh
            exact hf (hh x (List.mem_of_getElem? HX.out))
        go_wp2_with fail
        with_reducible refine (fits_is x k false _ (hw.below hb) hf2).mono ?_
        rintro e w1 ⟨rfl, hb1⟩
        go_wp2
        go_ret
        rw [HP.out]
        exact ⟨none, 0, rfl, World.ownsRow_nil _ _ _ _, bthen hb hb1⟩
    · have hjn2 : j = n := by omega
      subst hjn2
      have HP : Hid (Num.putRow l k = upTo l k j) := by
        have hl := RdI.size h
        have ht : l.take j = l := List.take_of_length_le (by omega)
        have ha := HA.out
        unfold Num.putRow upTo
        rw [ht] at ha ⊢
        rw [if_pos ha]
        exact hidT rfl
      go_wp2
      go_ret
      rw [HP.out]
      exact Own.gives hown hb
end Go.Proofs.YtahkhideepncfaaDoor
/- What num's PutRow at no width, Put, first and Take come to. -/
namespace Go.Proofs.YtahkhideepncfaaDoor
open Go.RowKit
set_option linter.unusedVariables false

theorem fits_none {n k : Int} (h : Num.most k < 0) : Num.fits n k = false := by
  simp only [Num.fits, Bool.and_eq_false_iff, decide_eq_false_iff_not]
  omega
theorem putRow_none {l : List Int} {k : Int} (h : Num.most k < 0) : Num.putRow l k = [] := by
  unfold Num.putRow
  cases l with
  | nil => simp
  | cons x l => rw [if_neg (by simp [fits_none h])]

theorem putRow_no (A : Option Addr) (n c : Nat) (l : List Int) (k : Int) (w : World) (hw : Wd w) (h : RdI w A n c l) (hk : Num.most k < 0) (hn : n ≤ 65536) :
    Calls Tryd.prog 36 #[.slice A n c, .int .i64 k] w (Gives w 5 (Num.putRow l k)) := by
  rw [putRow_none hk]
  by_cases h0 : 0 < n
  · obtain ⟨b, o, x, rfl, hx, hc⟩ := RdI.at_ h h0
    rw [Nat.add_zero] at hc
    clear hx
    go_enter Tryd.func36, Tryd.ntmps36
    go_wp2
    refine wp_loop_rounds 1 ?_
    rw [rounds_succ]
    go_wp2_with fail
    with_reducible refine (fits_is x k false _ hw (fits_none hk)).mono ?_
    rintro e w1 ⟨rfl, hb1⟩
    go_wp2
    go_ret
    exact ⟨none, 0, rfl, World.ownsRow_nil _ _ _ _, hb1⟩
  · obtain rfl : n = 0 := by omega
    go_enter Tryd.func36, Tryd.ntmps36
    go_wp2
    refine wp_loop_rounds 1 ?_
    rw [rounds_succ]
    go_wp2
    go_ret
    exact ⟨none, 0, rfl, World.ownsRow_nil _ _ _ _, Below.refl _ _⟩

theorem putRow_any (A : Option Addr) (n c : Nat) (l : List Int) (k : Int) (w : World) (hw : Wd w) (h : RdI w A n c l) (hn : n ≤ 65536) :
    Calls Tryd.prog 36 #[.slice A n c, .int .i64 k] w (Gives w 5 (Num.putRow l k)) := by
  by_cases hk : Num.most k < 0
  · exact putRow_no A n c l k w hw h hk hn
  · obtain ⟨j, rfl, hj⟩ := Num.isW_of hk
    exact putRow_fit A n c l j w hw h hj hn

theorem put_any (x k : Int) (w : World) (hw : Wd w) :
    Calls Tryd.prog 59 #[.int .i64 x, .int .i64 k] w (Gives w 5 (Num.put x k)) := by
  have hr : RdI (w.alloc (.cells #[.int .i64 x] 3)) (some ⟨w.heap.size, 0, none⟩) 1 1 [x] := RdV.lit w 3 (0, 0) _ _ rfl 1 rfl (by decide) _ rfl
  have hw1 : Wd (w.alloc (.cells #[.int .i64 x] 3)) := hw.alloc _
  go_enter Tryd.func59, Tryd.ntmps59
  go_wp2_with fail
  with_reducible refine (putRow_any _ _ _ [x] k _ hw1 hr (by omega)).mono ?_
  rw [Num.putRow_one]
  rintro e w1 ⟨A1, c1, rfl, ho1, hb1⟩
  go_wp2
  go_ret
  have hb0 : Below w.heap.size w (w.alloc (.cells #[.int .i64 x] 3)) := (Below.refl _ _).alloc (Nat.le_refl _) _
  exact ⟨A1, c1, rfl, ho1.mono hb0.size, bthen hb0 hb1⟩

def FirstIs (w : World) (m k : Int) (e : Ending) (w' : World) : Prop := e = .returned (.tuple #[.int .i64 m, .int .i64 k]) ∧ Below w.heap.size w w'

/-- A frame of 44 slots whose eighth holds a code. -/
def At44 (k : Int) (a : Act) : Prop := ∃ (u0 u1 u2 u3 u4 u5 u6 u7 u8 u9 u10 u11 u12 u13 u14 u15 u16 u17 u18 u19 u20 u21 u22 u23 u24 u25 u26 u27 u28 u29 u30 u31 u32 u33 u34 u35 u36 u37 u38 u39 u40 u41 u42 u43 : Value), a = { tmps := #[u0, u1, u2, u3, u4, u5, u6, u7, u8, u9, u10, u11, u12, u13, u14, u15, u16, u17, u18, u19, u20, u21, u22, u23, u24, u25, u26, u27, u28, u29, u30, u31, u32, u33, u34, u35, u36, u37, u38, u39, u40, u41, u42, u43], defers := [] } ∧ u7 = .int .i64 k

set_option maxRecDepth 100000 in
theorem first_no (A : Option Addr) (n c : Nat) (k : Int) (w : World) (hw : Wd w) (hk : Num.most k < 0) :
    Calls Tryd.prog 47 #[.slice A n c, .int .i64 k] w (FirstIs w 0 1) := by
  go_enter Tryd.func47, Tryd.ntmps47
  go_wp2
  refine wp_scope_jumps 0 (fun a' w' => At44 1 a' ∧ Below w.heap.size w w') (fun _ _ => 0) rfl ?_ ?_
  · go_wp2_with fail
    with_reducible refine (bound_no k _ hw hk).mono ?_
    rintro e w1 ⟨rfl, hb1⟩
    go_wp2
    go_step3
    exact ⟨rfl, ⟨_, _, _, _, _, _, _, _, _, _, _, _, _, _, _, _, _, _, _, _, _, _, _, _, _, _, _, _, _, _, _, _, _, _, _, _, _, _, _, _, _, _, _, _, rfl, rfl⟩, hb1⟩
  · rintro a' w' ⟨⟨u0, u1, u2, u3, u4, u5, u6, u7, u8, u9, u10, u11, u12, u13, u14, u15, u16, u17, u18, u19, u20, u21, u22, u23, u24, u25, u26, u27, u28, u29, u30, u31, u32, u33, u34, u35, u36, u37, u38, u39, u40, u41, u42, u43, rfl, rfl⟩, hb⟩
    go_wp2
    simp only [Exit.jump]
    go_ret2
    exact ⟨rfl, hb⟩

set_option maxRecDepth 100000 in
theorem first_short (A : Option Addr) (n c : Nat) (k : Nat) (w : World) (hw : Wd w) (hk : Num.IsW k) (hn : n < k) :
    Calls Tryd.prog 47 #[.slice A n c, .int .i64 (k : Int)] w (FirstIs w 0 2) := by
  have q1 : decide ((n : Int) < (k : Int)) = true := by simp; omega
  have q1' : decide (n < k) = true := by simp; omega
  go_enter Tryd.func47, Tryd.ntmps47
  go_wp2
  refine wp_scope_jumps 0 (fun a' w' => At44 2 a' ∧ Below w.heap.size w w') (fun _ _ => 0) rfl ?_ ?_
  · go_wp2_with fail
    with_reducible refine (bound_yes k _ hw hk).mono ?_
    rintro e w1 ⟨rfl, hb1⟩
    go_wp2
    go_step3
    exact ⟨rfl, ⟨_, _, _, _, _, _, _, _, _, _, _, _, _, _, _, _, _, _, _, _, _, _, _, _, _, _, _, _, _, _, _, _, _, _, _, _, _, _, _, _, _, _, _, _, rfl, rfl⟩, hb1⟩
  · rintro a' w' ⟨⟨u0, u1, u2, u3, u4, u5, u6, u7, u8, u9, u10, u11, u12, u13, u14, u15, u16, u17, u18, u19, u20, u21, u22, u23, u24, u25, u26, u27, u28, u29, u30, u31, u32, u33, u34, u35, u36, u37, u38, u39, u40, u41, u42, u43, rfl, rfl⟩, hb⟩
    go_wp2
    simp only [Exit.jump]
    go_ret2
    exact ⟨rfl, hb⟩

theorem val_lt7 {l : List UInt8} {k : Nat} (h : k ≤ 7) : Num.val (l.take k) < 72057594037927936 := by
  have h1 := Num.val_lt (l.take k)
  have h2 : (l.take k).length ≤ 7 := Nat.le_trans (List.length_take_le _ _) h
  exact Nat.lt_of_lt_of_le h1 (Nat.le_trans (Nat.pow_le_pow_right (by omega) h2) (by decide))
theorem val_lt8 {l : List UInt8} {k : Nat} (h : k ≤ 8) : Num.val (l.take k) < 18446744073709551616 := by
  have h1 := Num.val_lt (l.take k)
  have h2 : (l.take k).length ≤ 8 := Nat.le_trans (List.length_take_le _ _) h
  exact Nat.lt_of_lt_of_le h1 (Nat.le_trans (Nat.pow_le_pow_right (by omega) h2) (by decide))
theorem val_take_succ {l : List UInt8} {k : Nat} {x : UInt8} (h : l[k]? = some x) : Num.val (l.take (k + 1)) = 256 * Num.val (l.take k) + x.toNat := by
  rw [List.take_add_one, h]
  exact Num.val_snoc _ _
theorem or_low (v : Nat) (x : UInt8) (h : v < 72057594037927936) : bits .or .u64 ((v : Int) * 256) (x.toNat : Int) = ((256 * v + x.toNat : Nat) : Int) := by
  have hx := Num.byte_lt x
  have h1 := u64_or_nat (v * 256) x.toNat (by omega) (by omega)
  have h2 : 2 ^ 8 * v + x.toNat = 2 ^ 8 * v ||| x.toNat := Nat.two_pow_add_eq_or_of_lt hx v
  rw [show (256 * v + x.toNat : Nat) = 2 ^ 8 * v + x.toNat from rfl, h2, Nat.mul_comm, ← h1]
  rfl

set_option maxRecDepth 100000 in
set_option maxHeartbeats 1000000 in
theorem first_long (A : Option Addr) (n c : Nat) (l : List UInt8) (k : Nat) (w : World) (hw : Wd w) (h : Rd w A n c l) (hk : Num.IsW k) (hn : k ≤ n) (hv : Num.most k < (Num.val (l.take k) : Int)) :
    Calls Tryd.prog 47 #[.slice A n c, .int .i64 (k : Int)] w (FirstIs w 0 2) := by
  have hk8 := hk.pos
  have hc := h.2.1
  obtain ⟨b, o, rfl, _⟩ := h.at_ (by omega)
  have q1 : decide ((n : Int) < (k : Int)) = false := by simp; omega
  have q1' : decide (n < k) = false := by simp; omega
  have hm := Num.most_lt hk
  have hmm : Num.most k ≤ 4611686018427387904 := by rcases hk with rfl | rfl | rfl <;> decide
  have hm0 := hm.1
  clear hm
  go_enter Tryd.func47, Tryd.ntmps47
  go_wp2
  refine wp_scope_jumps 0 (fun a' w' => At44 2 a' ∧ Below w.heap.size w w') (fun _ _ => 0) rfl ?_ ?_
  · go_wp2_with fail
    with_reducible refine (bound_yes k _ hw hk).mono ?_
    rintro e w1 ⟨rfl, hb1⟩
    have h1 := h.below hb1
    go_wp2
    go_loop [6, 27] (fun s i => ∃ j : Nat, j ≤ k ∧ i = .int .i64 j ∧ s = .int .u64 (Num.val (l.take j) : Nat)) (fun _ i => k - (intOf i).toNat)
    case atStart => exact ⟨0, Nat.zero_le _, rfl, rfl⟩
    case round =>
      obtain ⟨j, hj, rfl, rfl⟩ := hrel
      by_cases hjk : j < k
      · have hlt := val_lt7 (l := l) (k := j) (by omega)
        obtain ⟨b', o', hA, hcell⟩ := h1.at_ (by omega)
        injection hA with hA
        injection hA with e1 e2
        subst e1; subst e2
        obtain ⟨x, hx, hc1⟩ := hcell j (by omega)
        clear hcell
        have HS := hidT (val_take_succ hx)
        have HO := hidT (or_low _ x hlt)
        have hxb := Num.byte_lt x
        clear hx
        go_wp2
        rw [HO.out, ← HS.out]
        go_round
        case rel => exact ⟨j + 1, by omega, by go_num, rfl⟩
        case measure => simp [intOf]; omega
      · obtain rfl : j = k := by omega
        have hlt := val_lt8 (l := l) (k := j) (by omega)
        have q2 : decide (Num.most j < (Num.val (l.take j) : Int)) = true := by simpa using hv
        go_wp2
        go_step3
        exact ⟨rfl, ⟨_, _, _, _, _, _, _, _, _, _, _, _, _, _, _, _, _, _, _, _, _, _, _, _, _, _, _, _, _, _, _, _, _, _, _, _, _, _, _, _, _, _, _, _, rfl, rfl⟩, hb1⟩
  · rintro a' w' ⟨⟨u0, u1, u2, u3, u4, u5, u6, u7, u8, u9, u10, u11, u12, u13, u14, u15, u16, u17, u18, u19, u20, u21, u22, u23, u24, u25, u26, u27, u28, u29, u30, u31, u32, u33, u34, u35, u36, u37, u38, u39, u40, u41, u42, u43, rfl, rfl⟩, hb⟩
    go_wp2
    simp only [Exit.jump]
    go_ret2
    exact ⟨rfl, hb⟩
end Go.Proofs.YtahkhideepncfaaDoor
/- What num's first, Take and TakeRow come to. -/
namespace Go.Proofs.YtahkhideepncfaaDoor
open Go.RowKit
set_option linter.unusedVariables false

set_option maxRecDepth 100000 in
set_option maxHeartbeats 1000000 in
theorem first_ok (A : Option Addr) (n c : Nat) (l : List UInt8) (k : Nat) (w : World) (hw : Wd w) (h : Rd w A n c l) (hk : Num.IsW k) (hn : k ≤ n) (hv : (Num.val (l.take k) : Int) ≤ Num.most k) :
    Calls Tryd.prog 47 #[.slice A n c, .int .i64 (k : Int)] w (FirstIs w (Num.val (l.take k)) 0) := by
  have hk8 := hk.pos
  have hc := h.2.1
  obtain ⟨b, o, rfl, _⟩ := h.at_ (by omega)
  have q1 : decide ((n : Int) < (k : Int)) = false := by simp; omega
  have q1' : decide (n < k) = false := by simp; omega
  have hm := Num.most_lt hk
  have hmm : Num.most k ≤ 4611686018427387904 := by rcases hk with rfl | rfl | rfl <;> decide
  have hm0 := hm.1
  clear hm
  go_enter Tryd.func47, Tryd.ntmps47
  go_wp2
  refine wp_scope_straight ?_
  go_wp2_with fail
  with_reducible refine (bound_yes k _ hw hk).mono ?_
  rintro e w1 ⟨rfl, hb1⟩
  have h1 := h.below hb1
  go_wp2
  go_loop [6, 27] (fun s i => ∃ j : Nat, j ≤ k ∧ i = .int .i64 j ∧ s = .int .u64 (Num.val (l.take j) : Nat)) (fun _ i => k - (intOf i).toNat)
  case atStart => exact ⟨0, Nat.zero_le _, rfl, rfl⟩
  case round =>
    obtain ⟨j, hj, rfl, rfl⟩ := hrel
    by_cases hjk : j < k
    · have hlt := val_lt7 (l := l) (k := j) (by omega)
      obtain ⟨b', o', hA, hcell⟩ := h1.at_ (by omega)
      injection hA with hA
      injection hA with e1 e2
      subst e1; subst e2
      obtain ⟨x, hx, hc1⟩ := hcell j (by omega)
      clear hcell
      have HS := hidT (val_take_succ hx)
      have HO := hidT (or_low _ x hlt)
      have hxb := Num.byte_lt x
      clear hx
      go_wp2
      rw [HO.out, ← HS.out]
      go_round
      case rel => exact ⟨j + 1, by omega, by go_num, rfl⟩
      case measure => simp [intOf]; omega
    · obtain rfl : j = k := by omega
      have hlt := val_lt8 (l := l) (k := j) (by omega)
      have q2 : decide (Num.most j < (Num.val (l.take j) : Int)) = false := by simp; omega
      go_wp2
      go_ret2
      exact ⟨rfl, hb1⟩

theorem first_any (A : Option Addr) (n c : Nat) (l : List UInt8) (k : Int) (w : World) (hw : Wd w) (h : Rd w A n c l) :
    Calls Tryd.prog 47 #[.slice A n c, .int .i64 k] w (FirstIs w (Num.num l k) (Num.code l k)) := by
  have hl := h.1
  by_cases hk : Num.most k < 0
  · have hc : Num.code l k = 1 := by unfold Num.code; rw [if_pos hk]
    rw [(Num.code_bad (l := l) (k := k) (by omega)).1, hc]
    exact first_no A n c k w hw hk
  · obtain ⟨j, rfl, hj⟩ := Num.isW_of hk
    by_cases h2 : n < j
    · have hc : Num.code l j = 2 := by unfold Num.code; rw [if_neg hk, if_pos (by rw [hl]; simpa using h2)]
      rw [(Num.code_bad (l := l) (k := j) (by omega)).1, hc]
      exact first_short A n c j w hw hj h2
    · by_cases h3 : Num.most j < (Num.val (l.take j) : Int)
      · have hc : Num.code l j = 2 := by unfold Num.code; rw [if_neg hk, if_neg (by rw [hl]; simpa using h2), if_pos (by simpa using h3)]
        rw [(Num.code_bad (l := l) (k := j) (by omega)).1, hc]
        exact first_long A n c l j w hw h hj (by omega) h3
      · have hc : Num.code l j = 0 := by unfold Num.code; rw [if_neg hk, if_neg (by rw [hl]; simpa using h2), if_neg (by simpa using h3)]
        have hn : Num.num l j = Num.val (l.take j) := by unfold Num.num; rw [if_pos hc, Int.toNat_natCast]
        rw [hn, hc]
        exact first_ok A n c l j w hw h hj (by omega) (by omega)

/-- A number, bytes, and a code. -/
def TakeIs (w : World) (m : Int) (r : List UInt8) (k : Int) (e : Ending) (w' : World) : Prop :=
  ∃ A c, e = .returned (.tuple #[.int .i64 m, .slice A r.length c, .int .i64 k]) ∧ Own w' w.heap.size 5 (.slice A r.length c) r.length r ∧ Below w.heap.size w w'

theorem take_any (A : Option Addr) (n c : Nat) (l : List UInt8) (k : Int) (w : World) (hw : Wd w) (h : Rd w A n c l) (hn : n ≤ 65536) :
    Calls Tryd.prog 49 #[.slice A n c, .int .i64 k] w (TakeIs w (Num.num l k) (Num.rest l k) (Num.code l k)) := by
  have hl := h.1
  by_cases hc0 : Num.code l k = 0
  · rcases Num.code_cases l k with ⟨h1, _⟩ | ⟨h1, _⟩ | ⟨_, hk, h3, h4⟩
    · omega
    · omega
    obtain ⟨j, rfl, hj⟩ := Num.isW_of hk
    have hj8 := hj.pos
    rw [Int.toNat_natCast] at h3
    have hcap := h.2.1
    obtain ⟨b, o, rfl, _⟩ := h.at_ (by omega)
    have hr : Num.rest l j = l.drop j := by unfold Num.rest; rw [if_pos hc0, Int.toNat_natCast]
    have hlen : (l.drop j).length = n - j := by rw [List.length_drop, hl]
    have HL := hidT hlen
    have hfirst := first_any _ n c l j w hw h
    rw [hr]
    rw [hc0] at hfirst ⊢
    have hd := h.drop (k := j) (by omega)
    have hnum := Num.num_le l j
    generalize Num.num l j = x at hfirst hnum ⊢
    generalize hld : l.drop j = r at hd HL ⊢
    have q1 : (0 : Int) ≤ (j : Int) := by omega
    have q2 : (j : Int) ≤ (n : Int) := by omega
    have q3 : j ≤ n := by omega
    clear hr hc0 hk h3 h4 hlen hld
    by_cases hcj : c = j
    · obtain rfl : n = j := by omega
      subst hcj
      go_enter Tryd.func49, Tryd.ntmps49
      go_wp2_with fail
      with_reducible refine hfirst.mono ?_
      rintro e w1 ⟨rfl, hb1⟩
      go_wp2_with fail
      have hrn : r = [] := List.eq_nil_of_length_eq_zero (by rw [HL.out]; omega)
      subst hrn
      with_reducible refine (clone_any _ _ _ [] _ (Rd.empty _ _) (by omega)).mono ?_
      rintro e w2 ⟨A2, c2, rfl, ho2, hb2⟩
      go_wp2
      exact bodyPost_ret (v := .tuple #[.int .i64 (x : Int), .slice A2 0 c2, .int .i64 0]) (by simp [results, Tryd.results49, go_sem]) rfl ⟨A2, c2, rfl, ho2.mono hb1.size, bthen hb1 hb2⟩
    · go_enter Tryd.func49, Tryd.ntmps49
      go_wp2_with fail
      with_reducible refine hfirst.mono ?_
      rintro e w1 ⟨rfl, hb1⟩
      go_wp2_with fail
      with_reducible refine (clone_any _ _ _ r _ (hd.below hb1) (by omega)).mono ?_
      rintro e w2 ⟨A2, c2, rfl, ho2, hb2⟩
      go_wp2
      exact bodyPost_ret (v := .tuple #[.int .i64 (x : Int), .slice A2 r.length c2, .int .i64 0]) (by simp [results, Tryd.results49, go_sem]) rfl ⟨A2, c2, rfl, ho2.mono hb1.size, bthen hb1 hb2⟩
  · obtain ⟨h1, h2⟩ := Num.code_bad hc0
    have hfirst := first_any _ n c l k w hw h
    rw [h1] at hfirst
    rw [h1, h2]
    have q1 : (Num.code l k != 0) = true := by simpa using hc0
    have q2 : (Num.code l k == 0) = false := by simpa using hc0
    clear hc0 h1 h2
    go_enter Tryd.func49, Tryd.ntmps49
    go_wp2_with fail
    with_reducible refine hfirst.mono ?_
    rintro e w1 ⟨rfl, hb1⟩
    go_wp2
    exact bodyPost_ret (v := .tuple #[.int .i64 0, .slice none 0 0, .int .i64 (Num.code l k)]) (by simp [results, Tryd.results49, go_sem]) rfl ⟨none, 0, rfl, World.ownsRow_nil _ _ _ _, hb1⟩

theorem info3 : (Tryd.prog.info? 3).map (fun i => (i.zero, i.size, i.bytes)) = some (some (.int .i64 0), 1, 8) := by kernel_rfl

/-- A row of numbers, bytes, and a code. -/
def RowIs (w : World) (p : List Int × List UInt8 × Int) (e : Ending) (w' : World) : Prop :=
  ∃ A c B d, e = .returned (.tuple #[.slice A p.1.length c, .slice B p.2.1.length d, .int .i64 p.2.2]) ∧ OwnV w' w.heap.size 3 (.slice A p.1.length c) p.1.length (is p.1) ∧ Own w' w.heap.size 5 (.slice B p.2.1.length d) p.2.1.length p.2.1 ∧ Below w.heap.size w w'
theorem RowIs.none_ {w w' : World} {p : List Int × List UInt8 × Int} {k : Int} (hp : p = ([], [], k)) (hb : Below w.heap.size w w') : RowIs w p (.returned (.tuple #[.slice none 0 0, .slice none 0 0, .int .i64 k])) w' := by
  subst hp
  exact ⟨none, 0, none, 0, rfl, World.ownsRow_nil _ _ _ _, World.ownsRow_nil _ _ _ _, hb⟩

theorem takeRow_arg (A : Option Addr) (n c : Nat) (l : List UInt8) (many k : Int) (w : World) (hw : Wd w) (h : Num.most k < 0 ∨ many < 0) :
    Calls Tryd.prog 20 #[.slice A n c, .int .i64 many, .int .i64 k] w (RowIs w (Num.rowOf l many k)) := by
  by_cases hk : Num.most k < 0
  · go_enter Tryd.func20, Tryd.ntmps20
    go_wp2_with fail
    with_reducible refine (bound_no k _ hw hk).mono ?_
    rintro e w1 ⟨rfl, hb1⟩
    go_wp2
    exact bodyPost_ret (v := .tuple #[.slice none 0 0, .slice none 0 0, .int .i64 1]) (by simp [results, Tryd.results20, go_sem]) rfl (RowIs.none_ (Num.rowOf_arg h) hb1)
  · obtain ⟨j, rfl, hj⟩ := Num.isW_of hk
    have q1 : decide (many < 0) = true := by simp; omega
    have HR := hidT (Num.rowOf_arg (l := l) h)
    clear h hk
    go_enter Tryd.func20, Tryd.ntmps20
    go_wp2_with fail
    with_reducible refine (bound_yes j _ hw hj).mono ?_
    rintro e w1 ⟨rfl, hb1⟩
    go_wp2
    exact bodyPost_ret (v := .tuple #[.slice none 0 0, .slice none 0 0, .int .i64 1]) (by simp [results, Tryd.results20, go_sem]) rfl (RowIs.none_ HR.out hb1)

theorem quot (n k : Nat) (hn : n ≤ 65536) : wrap64 ((n : Int) / (k : Int)) = ((n / k : Nat) : Int) := by
  have h1 : ((n : Int) / (k : Int)) = ((n / k : Nat) : Int) := (Int.natCast_ediv n k).symm
  have h2 : n / k ≤ n := Nat.div_le_self n k
  rw [h1]
  generalize n / k = q at h2
  exact IntWalk.wrap64_in _ (by omega)

theorem takeRow_few (A : Option Addr) (n c : Nat) (l : List UInt8) (m k : Nat) (w : World) (hw : Wd w) (h : Rd w A n c l) (hn : n ≤ 65536) (hk : Num.IsW k) (hm : n / k < m) :
    Calls Tryd.prog 20 #[.slice A n c, .int .i64 (m : Int), .int .i64 (k : Int)] w (RowIs w (Num.rowOf l m k)) := by
  have hk8 := hk.pos
  have hmo := (Num.most_lt hk).1
  have HR : Hid (Num.rowOf l m k = ([], [], 2)) := by
    refine Num.rowOf_none (by omega) (Num.takes_none ?_)
    rw [h.1, Int.toNat_natCast]
    exact (Nat.div_lt_iff_lt_mul (by omega)).1 hm
  have q1 : decide ((m : Int) < 0) = false := by simp
  have hq := quot n k hn
  generalize n / k = q at hq hm
  have q2 : decide (q < m) = true := by simpa using hm
  have q3 : decide ((q : Int) < (m : Int)) = true := by simpa using hm
  go_enter Tryd.func20, Tryd.ntmps20
  go_wp2_with fail
  with_reducible refine (bound_yes k _ hw hk).mono ?_
  rintro e w1 ⟨rfl, hb1⟩
  go_wp2
  exact bodyPost_ret (v := .tuple #[.slice none 0 0, .slice none 0 0, .int .i64 2]) (by simp [results, Tryd.results20, go_sem]) rfl (RowIs.none_ HR.out hb1)

theorem RdI.of_own {w : World} {base g n c : Nat} {t : TypeId} {l : List Int} (h : OwnV w base t (.slice (some ⟨g, 0, none⟩) n c) n (is l)) {i : Nat} (hi : i < n) : ∃ x, w.cell? ⟨g, i, none⟩ = some (.int .i64 x) := by
  obtain ⟨b, o, x, hA, hx, hc⟩ := RdI.at_ (OwnV.same h) hi
  injection hA with hA
  injection hA with e1 e2
  subst e1; subst e2
  rw [Nat.zero_add] at hc
  exact ⟨x, hc⟩
theorem set_mid (acc : List Int) (x : Int) (m j : Nat) (h : acc.length = j) (hj : j < m) : (acc ++ List.replicate (m - j) 0).set j x = (acc ++ [x]) ++ List.replicate (m - (j + 1)) 0 := by
  rw [List.set_append_right _ _ (by omega), h, Nat.sub_self, show m - j = (m - (j + 1)) + 1 from by omega, List.replicate_succ, List.set_cons_zero, List.append_assoc]
  rfl

set_option maxHeartbeats 1000000 in
theorem takeRow_in (A : Option Addr) (n c : Nat) (l : List UInt8) (m k : Nat) (w : World) (hw : Wd w) (h : Rd w A n c l) (hn : n ≤ 65536) (hk : Num.IsW k) (hm : m ≤ n / k) :
    Calls Tryd.prog 20 #[.slice A n c, .int .i64 (m : Int), .int .i64 (k : Int)] w (RowIs w (Num.rowOf l m k)) := by
  have hk8 := hk.pos
  have hmo := (Num.most_lt hk).1
  have hmn : m ≤ 65536 := Nat.le_trans hm (Nat.le_trans (Nat.div_le_self n k) hn)
  have q1 : decide ((m : Int) < 0) = false := by simp
  have hq := quot n k hn
  generalize n / k = q at hq hm
  have q2 : decide (q < m) = false := by simpa using hm
  have q3 : decide ((q : Int) < (m : Int)) = false := by simpa using hm
  go_enter Tryd.func20, Tryd.ntmps20
  go_wp2_with fail
  with_reducible refine (bound_yes k _ hw hk).mono ?_
  rintro e w1 ⟨rfl, hb1⟩
  go_wp2_with (
    at_make
    refine wpList_mkV rfl (.tmp 32) (.tmp 32) 22 rfl 3 (.int .i64 0) 8 info3 rfl (by omega) Tryd.underlying22 _ _ _ m rfl rfl rfl (by omega) ?_
    intro w2 hown2 hb2)
  clear hq q2 q3
  have hb12 := bthen hb1 hb2
  have hg : w.heap.size ≤ w1.heap.size := hb1.size
  generalize hgg : w1.heap.size = g at hown2 hg
  clear hgg
  go_loopw [0, 36] (fun v i w' => ∃ (j : Nat) (A' : Option Addr) (n' c' : Nat) (acc : List Int) (r : List UInt8), j ≤ m ∧ i = .int .i64 j ∧ v = .slice A' n' c' ∧ n' ≤ 65536 ∧ Rd w A' n' c' r ∧ Num.Tk k m l j acc r ∧
      OwnV w' w.heap.size 3 (.slice (some ⟨g, 0, none⟩) m m) m (is (acc ++ List.replicate (m - j) 0)) ∧ Below w.heap.size w w') (fun _ i _ => m - (intOf i).toNat)
  case atStart =>
    refine ⟨0, A, n, c, [], l, Nat.zero_le _, rfl, rfl, hn, h, Num.Tk.zero _ _ _, ?_, hb12⟩
    have := hown2.mono hg
    simpa [is] using this
  case round =>
    obtain ⟨j, A', n', c', acc, r, hj, rfl, rfl, hn', hr0, hT, hown, hb⟩ := hrel
    have hr := hr0.below hb
    have HT := hidT hT
    have HL := hidT hr.1
    clear hT
    by_cases hjm : j < m
    · by_cases hc0 : Num.code r k = 0
      · have hkn : k ≤ n' := by
          rcases Num.code_cases r k with ⟨hx, _⟩ | ⟨hx, _⟩ | ⟨_, _, h3, _⟩
          · omega
          · omega
          · have := hr.1; rw [Int.toNat_natCast] at h3; omega
        have hcap := hr.2.1
        obtain ⟨b, o, rfl, _⟩ := hr.at_ (by omega)
        have hf := first_any _ n' c' r k _ (hw.below hb) hr
        have hTs := HT.out.succ hjm hc0
        have hrest : Num.rest r k = r.drop k := by unfold Num.rest; rw [if_pos hc0, Int.toNat_natCast]
        have hnum := Num.num_le r k
        have HAL := hidT HT.out.1
        rw [hrest] at hTs
        rw [hc0] at hf
        generalize Num.num r k = x at hf hTs hnum
        have HTS := hidT hTs
        clear hTs hrest hc0
        have t1 : (0 : Int) ≤ (k : Int) := by omega
        have t2 : (k : Int) ≤ (n' : Int) := by omega
        go_wp2_with fail
        with_reducible refine hf.mono ?_
        rintro e w3 ⟨rfl, hb3⟩
        have ho3 := OwnV.later hown hb3
        obtain ⟨y, hcy⟩ := RdI.of_own ho3 hjm
        have hfy := World.ownsRow.frozenAt ho3 j
        have hst := (World.ownsRow.stored ho3 j (.int .i64 (x : Int))).1
        rw [← is_set, set_mid _ _ _ _ HAL.out hjm] at hst
        have hbs : Below w.heap.size w (w3.setCell ⟨g, j, none⟩ (.int .i64 (x : Int))) := (bthen hb hb3).setCell (p := ⟨g, j, none⟩) hg _
        by_cases hck : c' = k
        · obtain rfl : n' = k := by omega
          subst hck
          have hre : r.drop c' = [] := List.drop_eq_nil_of_le (by rw [HL.out]; omega)
          rw [hre] at HTS
          clear hre
          go_wp2
          go_roundw
          case rel => exact ⟨j + 1, _, 0, 0, acc ++ [(x : Int)], [], by omega, by go_num, rfl, by omega, Rd.empty _ _, HTS.out, hst, hbs⟩
          case measure => simp [intOf]; omega
        · have hd := hr0.drop (k := k) hkn
          go_wp2
          go_roundw
          case rel => exact ⟨j + 1, _, n' - k, c' - k, acc ++ [(x : Int)], r.drop k, by omega, by go_num, rfl, by omega, hd, HTS.out, hst, hbs⟩
          case measure => simp [intOf]; omega
      · have HR : Hid (Num.rowOf l m k = ([], [], 2)) := Num.rowOf_none (by omega) (HT.out.bad hjm hc0)
        have h2 := Num.code_width (l := r) (k := (k : Int)) (by omega) hc0
        have hf := first_any A' n' c' r k _ (hw.below hb) hr
        rw [h2, (Num.code_bad hc0).1] at hf
        clear h2 hc0
        go_wp2_with fail
        with_reducible refine hf.mono ?_
        rintro e w3 ⟨rfl, hb3⟩
        go_wp2
        exact bodyPost_ret (v := .tuple #[.slice none 0 0, .slice none 0 0, .int .i64 2]) (by simp [results, Tryd.results20, go_sem]) rfl (RowIs.none_ HR.out (bthen hb hb3))
    · obtain rfl : j = m := by omega
      have HR : Hid (Num.rowOf l j k = (acc, r, 0)) := Num.rowOf_some (by omega) HT.out.done
      have hal := HT.out.1
      have HAL := hidT hal
      clear hal
      go_wp2_with fail
      with_reducible refine (clone_any _ _ _ r _ hr (by omega)).mono ?_
      rintro e w3 ⟨A3, c3, rfl, ho3, hb3⟩
      go_wp2
      refine bodyPost_ret (v := .tuple #[.slice (some ⟨g, 0, none⟩) j j, .slice A3 r.length c3, .int .i64 0]) (by simp [results, Tryd.results20, go_sem]) rfl ?_
      rw [HR.out]
      have hx : OwnV w3 w.heap.size 3 (.slice (some ⟨g, 0, none⟩) j j) j (is acc) := by
        have := OwnV.later hown hb3
        simpa using this
      refine ⟨some ⟨g, 0, none⟩, j, A3, c3, ?_, ?_, ho3.mono hb.size, bthen hb hb3⟩
      · simp only [HAL.out]
      · simp only [HAL.out]; exact hx

theorem takeRow_any (A : Option Addr) (n c : Nat) (l : List UInt8) (many k : Int) (w : World) (hw : Wd w) (h : Rd w A n c l) (hn : n ≤ 65536) :
    Calls Tryd.prog 20 #[.slice A n c, .int .i64 many, .int .i64 k] w (RowIs w (Num.rowOf l many k)) := by
  by_cases ha : Num.most k < 0 ∨ many < 0
  · exact takeRow_arg A n c l many k w hw ha
  · obtain ⟨j, rfl, hj⟩ := Num.isW_of (k := k) (by omega)
    obtain ⟨m, rfl⟩ := Int.eq_ofNat_of_zero_le (a := many) (by omega)
    by_cases hm : n / j < m
    · exact takeRow_few A n c l m j w hw h hn hj hm
    · exact takeRow_in A n c l m j w hw h hn hj (by omega)
end Go.Proofs.YtahkhideepncfaaDoor
/- The package variable 'widths', as the program's text lays it: from the row's condition to what the walks ask. -/
namespace Go.Proofs.YtahkhideepncfaaDoor
open Go.RowKit Go.ChangeShapes Go.WideShapes Go.ChangeAt
set_option linter.unusedVariables false

theorem gWidths : Tryd.prog.globalNamed "precentor/num.widths" = some 0 := by kernel_rfl
theorem tWidths : (Tryd.prog.globals[(0 : Nat)]?).map (·.type) = some 92 := by kernel_rfl
set_option maxRecDepth 100000 in
theorem width_cells {W : World} {m : Nat} {a b : Value} {x : DataW Unit × List MemPlace} (h : DataW.trod (fun _ => ()) Tryd.prog W 0 (fun _ => true) false m 91 [a, b] = some x) :
    ∃ p q : Int, a = .int .i64 p ∧ b = .int .i64 q ∧ x.1 = .agg [.lit (.int .i64 p), .lit (.int .i64 q)] := by
  obtain ⟨xs, n, _, hx, _, hxl, hall⟩ := DataW.trod_struct Tryd.underlying91 h
  have h0 := hall 0 _ rfl
  have h1 := hall 1 _ rfl
  match xs, hxl with
  | [x0, x1], _ =>
    simp only [List.getElem?_cons_zero, List.getElem?_cons_succ] at h0 h1
    obtain ⟨p, e0, f0, _⟩ := DataW.trod_int Tryd.underlying3 h0
    obtain ⟨q, e1, f1, _⟩ := DataW.trod_int Tryd.underlying3 h1
    injection e0 with e0
    injection e1 with e1
    refine ⟨p, q, e0, e1, ?_⟩
    rw [hx, f0, f1]
    rfl
theorem wd_of_trod {W : World} {cs : Array Value} {f : Nat} {p : List MemPlace} (hv : W.var? Tryd.prog "precentor/num.widths" = some cs)
    (hd : DataW.trod (fun _ => ()) Tryd.prog W 0 (fun _ => true) false f 92 cs.toList = some (Rows.laid_precentor_num_widths, p)) : Wd W := by
  have hheap : ∃ t fr, W.heap[(0 : Nat)]? = some (.cells cs t fr) := by
    simp only [World.var?, gWidths, Option.bind_some] at hv
    split at hv
    · rename_i c t fr hh
      injection hv with hv
      subst hv
      exact ⟨t, fr, hh⟩
    · cases hv
  have c60 : Tryd.prog.cellsOf 92 = 6 := by kernel_rfl
  have c59 : Tryd.prog.cellsOf 91 = 2 := by kernel_rfl
  obtain ⟨t, fr, hh⟩ := hheap
  have hcs : cs = wcells := by
    obtain ⟨l⟩ := cs
    obtain ⟨xs, m, _, hx, hl, hxl, hall⟩ := DataW.trod_array Tryd.underlying92 hd
    rw [c60] at hl
    have h0 := hall 0 (by omega)
    have h1 := hall 1 (by omega)
    have h2 := hall 2 (by omega)
    match l, hl, xs, hxl with
    | [a0, a1, a2, a3, a4, a5], _, [x0, x1, x2], _ =>
      simp [c59] at h0 h1 h2
      obtain ⟨p0, q0, rfl, rfl, e0⟩ := width_cells h0
      obtain ⟨p1, q1, rfl, rfl, e1⟩ := width_cells h1
      obtain ⟨p2, q2, rfl, rfl, e2⟩ := width_cells h2
      have hd2 := congrArg Prod.fst hx
      simp [Rows.laid_precentor_num_widths, e0, e1, e2] at hd2
      obtain ⟨⟨rfl, rfl⟩, ⟨rfl, rfl⟩, rfl, rfl⟩ := hd2
      rfl
  subst hcs
  exact ⟨t, fr, hh⟩
set_option maxRecDepth 100000 in
theorem wd_of_laid {W : World} (h : laidMetH Tryd.prog [("precentor/num.widths", Rows.laid_precentor_num_widths)] W) : Wd W := by
  rw [MakeChecks.laidMetH_plain _ _ _ (by kernel_rfl)] at h
  obtain ⟨ps, ⟨g0, t0, cs0, f0, p0, q0, hg0, ht0, hv0, hd0, _, _⟩, _, _⟩ := h
  obtain rfl := Option.some.inj (gWidths.symm.trans hg0)
  obtain rfl := Option.some.inj (tWidths.symm.trans ht0)
  exact wd_of_trod hv0 hd0
end Go.Proofs.YtahkhideepncfaaDoor
/- What slices.Grow comes to of nothing, and slices.Concat of three slices of bytes. -/
namespace Go.Proofs.YtahkhideepncfaaDoor
open Go.RowKit
set_option linter.unusedVariables false

/-- A row of the call's own with room, of no element yet. -/
def Room (w : World) (e : Ending) (w' : World) : Prop := ∃ A c, e = .returned (.slice A 0 c) ∧ Own w' w.heap.size 5 (.slice A 0 c) 0 [] ∧ Below w.heap.size w w'

theorem keepC' {w w' : World} {p : Addr} {u : Value} (hb : Below w.heap.size w w') (h : w.cell? p = some u) : w'.cell? p = some u := (hb.cell (World.block_lt_of_cell? _ _ h)).trans h

theorem grow_nil (n : Nat) (w : World) (hn : n ≤ 1048576) :
    Calls Tryd.prog 77 #[.slice none 0 0, .int .i64 (n : Int)] w (Room w) := by
  by_cases h0 : n = 0
  · subst h0
    go_enter Tryd.func77, Tryd.ntmps77
    go_wp2
    go_ret
    exact ⟨none, 0, rfl, World.ownsRow_nil _ _ _ _, Below.refl _ _⟩
  · obtain ⟨i0, hi0, hz0, hz1, hz2⟩ := info_parts info5
    have hrun := Lib.run_append_nil_zeros (P := Tryd.prog) w 23 3 0 5 i0 (.int .u8 0) .i64 .i64 Tryd.underlying23 Tryd.underlying3 hi0 hz0 n (by omega) (by omega) (by omega) (by rw [hz2]; omega)
    have hge := grownCap_ge w n 0 5
    have hle := grownCap_le_maxLen w n 0 5 (by simp only [maxLen]; omega)
    generalize grownCap w n 0 5 = cap at hrun hge hle
    have hown : Own (w.drew.alloc (.cells (Builtin.zeroCells (Value.int .u8 0).cells n ++ Builtin.zeroCells (Value.int .u8 0).cells (cap - n)) 5)) w.heap.size 5 (.slice (some ⟨w.heap.size, 0, none⟩) 0 cap) 0 [] := by
      refine ⟨rfl, .inr ⟨w.heap.size, cap, _, rfl, Nat.le_refl _, heap_alloc_new w.drew _, Nat.zero_le _, hle, ?_, by simp [bs]⟩⟩
      rw [Array.size_append, size_zeroCells, size_zeroCells]
      show n * 1 + (cap - n) * 1 = cap * 1
      omega
    have hb : Below w.heap.size w (w.drew.alloc (.cells (Builtin.zeroCells (Value.int .u8 0).cells n ++ Builtin.zeroCells (Value.int .u8 0).cells (cap - n)) 5)) := (Below.refl _ _).drew.alloc (Nat.le_refl _) _
    generalize w.drew.alloc (.cells (Builtin.zeroCells (Value.int .u8 0).cells n ++ Builtin.zeroCells (Value.int .u8 0).cells (cap - n)) 5) = w1 at hrun hown hb
    go_enter Tryd.func77, Tryd.ntmps77
    go_wp2_with (
      at_builtin
      refine Lib.wpList_append_run _ rfl (.tmp 20) (.tmp 21) 23 3 rfl _ _ rfl rfl _ _ hrun ?_)
    go_ret
    exact ⟨_, _, rfl, hown, hb⟩

set_option maxHeartbeats 2000000 in
theorem concat3 (g : Nat) (A : Option Addr) (n c : Nat) (l : List UInt8) (A' : Option Addr) (n' c' : Nat) (l' : List UInt8) (B : Option Addr) (m d : Nat) (b : List UInt8) (w : World)
    (h0 : w.cell? ⟨g, 0, none⟩ = some (.slice A n c)) (h1 : w.cell? ⟨g, 1, none⟩ = some (.slice A' n' c')) (h2 : w.cell? ⟨g, 2, none⟩ = some (.slice B m d))
    (hr : Rd w A n c l) (hr' : Rd w A' n' c' l') (hb : Rd w B m d b) (hn : n ≤ 65536) (hn' : n' ≤ 65536) (hm : m ≤ 65536) :
    Calls Tryd.prog 58 #[.slice (some ⟨g, 0, none⟩) 3 3] w (Gives w 5 ((l ++ l') ++ b)) := by
  have e1 := hr.1
  have e2 := hr'.1
  have e3 := hb.1
  have hg := grow_nil (n + n' + m) w (by omega)
  have ez : ((n + n' + m : Nat) : Int) = (n : Int) + (n' : Int) + (m : Int) := by omega
  rw [ez] at hg
  have HL : Hid (((l ++ l') ++ b).length = n + n' + m) := by rw [List.length_append, List.length_append, e1, e2, e3]; exact hidT rfl
  clear e1 e2 e3 ez
  go_enter Tryd.func58, Tryd.ntmps58
  go_wp2
  refine wp_loop_rounds 4 ?_
  rw [rounds_succ]
  go_wp2
  rw [rounds_succ]
  go_wp2
  rw [rounds_succ]
  go_wp2
  rw [rounds_succ]
  go_wp2_with fail
  with_reducible refine hg.mono ?_
  rintro e w1 ⟨R, rc, rfl, ho, hb1⟩
  have k0 := keepC' hb1 h0
  have k1 := keepC' hb1 h1
  have k2 := keepC' hb1 h2
  go_wp2
  refine wp_loop_rounds 4 ?_
  rw [rounds_succ]
  go_wp2_with (
    at_builtin
    refine wpList_app rfl (.tmp 31) (.tmp 32) 23 rfl w.heap.size 5 info5 Tryd.underlying23 _ 0 [] rfl ho _ n c l rfl (hr.below hb1) (by omega) hb1.size ?_
    intro v2 w2 ho2 hb2)
  have hbw2 := hb1.trans hb2
  rw [Nat.zero_add, List.nil_append] at ho2
  have k0' := keepC' hbw2 h0
  have k1' := keepC' hbw2 h1
  have k2' := keepC' hbw2 h2
  rw [rounds_succ]
  go_wp2_with (
    at_builtin
    refine wpList_app rfl (.tmp 31) (.tmp 32) 23 rfl w.heap.size 5 info5 Tryd.underlying23 _ n l rfl ho2 _ n' c' l' rfl (hr'.below hbw2) (by omega) hbw2.size ?_
    intro v3 w3 ho3 hb3)
  have hbw3 := hbw2.trans hb3
  have m0 := keepC' hbw3 h0
  have m1 := keepC' hbw3 h1
  have m2 := keepC' hbw3 h2
  rw [rounds_succ]
  go_wp2_with (
    at_builtin
    refine wpList_app rfl (.tmp 31) (.tmp 32) 23 rfl w.heap.size 5 info5 Tryd.underlying23 _ (n + n') (l ++ l') rfl ho3 _ m d b rfl (hb.below hbw3) (by omega) hbw3.size ?_
    intro v4 w4 ho4 hb4)
  have hbw4 := hbw3.trans hb4
  rw [rounds_succ]
  go_wp2
  go_ret
  exact Own.gives ho4 hbw4
end Go.Proofs.YtahkhideepncfaaDoor
