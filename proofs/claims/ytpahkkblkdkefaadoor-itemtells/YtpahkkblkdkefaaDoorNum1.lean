/- What num's bound, Fits, PutRow and Put come to, where the package variable 'widths' holds what the program's text lays there. -/
import Derived.Test.YtpahkkblkdkefaaDoorNumMath
import Derived.Test.YtpahkkblkdkefaaDoorMemV
import Derived.Test.YtpahkkblkdkefaaDoorCom
import Derived.WalkKit
import Derived.WalkLawsBesides
import Derived.Laws.Rows
import Derived.IntWalk
namespace Go.Proofs.YtpahkkblkdkefaaDoor
open Go.RowKit
set_option linter.unusedVariables false

/-- The table of widths, cell by cell. -/
abbrev wcells : Array Value := #[.int .i64 1, .int .i64 255, .int .i64 2, .int .i64 65535, .int .i64 8, .int .i64 4611686018427387904]
/-- The package variable 'widths' holds its table. -/
def Wd (w : World) : Prop := ∃ t fr, w.heap[(0 : Nat)]? = some (.cells wcells t fr)
theorem Wd.below {w w' : World} (h : Wd w) (hb : Below w.heap.size w w') : Wd w' := by
  obtain ⟨t, fr, hh⟩ := h
  refine ⟨t, fr, ?_⟩
  rw [hb.block _ ?_, hh]
  rcases Nat.lt_or_ge (0 : Nat) w.heap.size with hlt | hge
  · exact hlt
  · rw [Array.getElem?_eq_none hge] at hh; cases hh
theorem Wd.drew {w : World} (h : Wd w) : Wd w.drew := h
theorem Wd.drewN {w : World} (h : Wd w) (k : Nat) : Wd (w.drewN k) := h
theorem Wd.alloc {w : World} (h : Wd w) (o : Obj) : Wd (w.alloc o) := h.below ((Below.refl _ _).alloc (Nat.le_refl _) o)

theorem ix0 (w : World) : (Instr.index 76 (.agg wcells) (.int .i64 0)).run Tryd.prog w = .ok (.agg #[.int .i64 1, .int .i64 255]) w := by kernel_rfl
theorem ix1 (w : World) : (Instr.index 76 (.agg wcells) (.int .i64 1)).run Tryd.prog w = .ok (.agg #[.int .i64 2, .int .i64 65535]) w := by kernel_rfl
theorem ix2 (w : World) : (Instr.index 76 (.agg wcells) (.int .i64 2)).run Tryd.prog w = .ok (.agg #[.int .i64 8, .int .i64 4611686018427387904]) w := by kernel_rfl

def BoundIs (w : World) (m : Int) (b : Bool) (e : Ending) (w' : World) : Prop := e = .returned (.tuple #[.int .i64 m, .bool b]) ∧ Below w.heap.size w w'

set_option maxHeartbeats 1000000 in
theorem bound_no (k : Int) (w : World) (hw : Wd w) (h : Num.most k < 0) :
    Calls Tryd.prog 56 #[.int .i64 k] w (BoundIs w 0 false) := by
  obtain ⟨t, fr, hg⟩ := hw
  obtain ⟨h1, h2, h8⟩ : k ≠ 1 ∧ k ≠ 2 ∧ k ≠ 8 := by
    rcases Num.most_cases k with ⟨_, e⟩ | ⟨_, e⟩ | ⟨_, e⟩ | ⟨a, b, c, _⟩
    · omega
    · omega
    · omega
    · exact ⟨a, b, c⟩
  have q1 : ((1 : Int) == k) = false := by simp; omega
  have q2 : ((2 : Int) == k) = false := by simp; omega
  have q8 : ((8 : Int) == k) = false := by simp; omega
  clear h h1 h2 h8
  go_enter Tryd.func56, Tryd.ntmps56
  go_wp2_with (refine wpList_load_row rfl 76 _ rfl 0 rfl t wcells fr _ hg Tryd.underlying76 rfl (by kernel_rfl) ?_)
  go_loopw [7] (fun i w' => ∃ j : Nat, j ≤ 3 ∧ i = .int .i64 j ∧ Below w.heap.size w w') (fun i _ => 3 - (intOf i).toNat)
  case atStart => exact ⟨0, Nat.zero_le _, rfl, Below.refl _ _⟩
  case round =>
    obtain ⟨j, hj, rfl, hb⟩ := hrel
    have hs := hb.size
    by_cases hj3 : j < 3
    · obtain rfl | rfl | rfl : j = 0 ∨ j = 1 ∨ j = 2 := by omega
      · have hx := ix0
        go_wp2
        go_roundw
        case rel => exact ⟨1, by omega, by go_num, hb.alloc hs _⟩
        case measure => simp [intOf]
      · have hx := ix1
        go_wp2
        go_roundw
        case rel => exact ⟨2, by omega, by go_num, hb.alloc hs _⟩
        case measure => simp [intOf]
      · have hx := ix2
        go_wp2
        go_roundw
        case rel => exact ⟨3, by omega, by go_num, hb.alloc hs _⟩
        case measure => simp [intOf]
    · obtain rfl : j = 3 := by omega
      go_wp2
      go_ret2
      exact ⟨rfl, hb⟩

set_option maxHeartbeats 1000000 in
theorem bound_yes (k : Nat) (w : World) (hw : Wd w) (h : Num.IsW k) :
    Calls Tryd.prog 56 #[.int .i64 (k : Int)] w (BoundIs w (Num.most k) true) := by
  obtain ⟨t, fr, hg⟩ := hw
  have hx0 := ix0
  have hx1 := ix1
  have hx2 := ix2
  rcases h with rfl | rfl | rfl
  · show Calls Tryd.prog 56 #[.int .i64 1] w (BoundIs w 255 true)
    go_enter Tryd.func56, Tryd.ntmps56
    go_wp2_with (refine wpList_load_row rfl 76 _ rfl 0 rfl t wcells fr _ hg Tryd.underlying76 rfl (by kernel_rfl) ?_)
    refine wp_loop_rounds 1 ?_
    rw [rounds_succ]
    go_wp2
    go_ret2
    exact ⟨rfl, (Below.refl _ _).alloc (Nat.le_refl _) _⟩
  · show Calls Tryd.prog 56 #[.int .i64 2] w (BoundIs w 65535 true)
    go_enter Tryd.func56, Tryd.ntmps56
    go_wp2_with (refine wpList_load_row rfl 76 _ rfl 0 rfl t wcells fr _ hg Tryd.underlying76 rfl (by kernel_rfl) ?_)
    refine wp_loop_rounds 2 ?_
    rw [rounds_succ]
    go_wp2
    rw [rounds_succ]
    go_wp2
    go_ret2
    exact ⟨rfl, ((Below.refl _ _).alloc (Nat.le_refl _) _).alloc (by simp) _⟩
  · show Calls Tryd.prog 56 #[.int .i64 8] w (BoundIs w 4611686018427387904 true)
    go_enter Tryd.func56, Tryd.ntmps56
    go_wp2_with (refine wpList_load_row rfl 76 _ rfl 0 rfl t wcells fr _ hg Tryd.underlying76 rfl (by kernel_rfl) ?_)
    refine wp_loop_rounds 3 ?_
    rw [rounds_succ]
    go_wp2
    rw [rounds_succ]
    go_wp2
    rw [rounds_succ]
    go_wp2
    go_ret2
    exact ⟨rfl, (((Below.refl _ _).alloc (Nat.le_refl _) _).alloc (by simp) _).alloc (by simp; omega) _⟩

theorem fits_is (n k : Int) (b : Bool) (w : World) (hw : Wd w) (h : Num.fits n k = b) :
    Calls Tryd.prog 52 #[.int .i64 n, .int .i64 k] w fun e w' => e = .returned (.bool b) ∧ Below w.heap.size w w' := by
  by_cases hk : Num.most k < 0
  · have hb : b = false := by
      rw [← h]
      simp only [Num.fits, Bool.and_eq_false_iff, decide_eq_false_iff_not]
      omega
    subst hb
    clear h
    go_enter Tryd.func52, Tryd.ntmps52
    go_wp2_with fail
    with_reducible refine (bound_no k _ hw hk).mono ?_
    rintro e w1 ⟨rfl, hb1⟩
    go_wp2
    go_ret
    exact ⟨rfl, hb1⟩
  · obtain ⟨j, rfl, hj⟩ := Num.isW_of hk
    by_cases h0 : 0 ≤ n
    · by_cases h1 : n ≤ Num.most j
      · have hb : b = true := by
          rw [← h]
          simp only [Num.fits, Bool.and_eq_true, decide_eq_true_eq]
          omega
        subst hb
        have q0 : decide (0 ≤ n) = true := by simpa using h0
        have q1 : decide (n ≤ Num.most j) = true := by simpa using h1
        clear h
        go_enter Tryd.func52, Tryd.ntmps52
        go_wp2_with fail
        with_reducible refine (bound_yes j _ hw hj).mono ?_
        rintro e w1 ⟨rfl, hb1⟩
        go_wp2
        go_ret
        exact ⟨rfl, hb1⟩
      · have hb : b = false := by
          rw [← h]
          simp only [Num.fits, Bool.and_eq_false_iff, decide_eq_false_iff_not]
          omega
        subst hb
        have q0 : decide (0 ≤ n) = true := by simpa using h0
        have q1 : decide (n ≤ Num.most j) = false := by simpa using h1
        clear h
        go_enter Tryd.func52, Tryd.ntmps52
        go_wp2_with fail
        with_reducible refine (bound_yes j _ hw hj).mono ?_
        rintro e w1 ⟨rfl, hb1⟩
        go_wp2
        go_ret
        exact ⟨rfl, hb1⟩
    · have hb : b = false := by
        rw [← h]
        simp only [Num.fits, Bool.and_eq_false_iff, decide_eq_false_iff_not]
        omega
      subst hb
      have q0 : decide (0 ≤ n) = false := by simpa using h0
      clear h
      go_enter Tryd.func52, Tryd.ntmps52
      go_wp2_with fail
      with_reducible refine (bound_yes j _ hw hj).mono ?_
      rintro e w1 ⟨rfl, hb1⟩
      go_wp2
      go_ret
      exact ⟨rfl, hb1⟩

/-- The bytes of the first so many numbers. -/
def upTo (l : List Int) (k : Int) (j : Nat) : List UInt8 := ((l.take j).map fun n => Num.put n k).flatten
theorem upTo_succ {l : List Int} {k : Int} {j : Nat} {x : Int} (h : l[j]? = some x) : upTo l k (j + 1) = upTo l k j ++ Num.put x k := by
  unfold upTo
  rw [List.take_add_one, h]
  simp
theorem upTo_length {l : List Int} {k : Int} (j : Nat) : (upTo l k j).length ≤ 8 * j := by
  unfold upTo
  induction j with
  | zero => simp
  | succ j ih =>
    rw [List.take_add_one, List.map_append, List.flatten_append, List.length_append]
    have : (List.map (fun n => Num.put n k) l[j]?.toList).flatten.length ≤ 8 := by
      cases l[j]? with
      | none => simp
      | some x =>
        simp
        by_cases hf : Num.fits x k = true
        · obtain ⟨m, rfl, hm⟩ := Num.fits_width hf
          rw [Num.put_length hf]
          have := hm.pos
          omega
        · rw [Num.put_not (by simpa using hf)]; simp
    omega

theorem byte_shr (x j : Nat) : (x : Int) / 2 ^ (8 * j) % 256 = ((UInt8.ofNat (x / 256 ^ j)).toNat : Int) := by
  have e : (2 : Int) ^ (8 * j) = ((256 ^ j : Nat) : Int) := by
    rw [show (256 : Nat) = 2 ^ 8 from rfl, ← Nat.pow_mul, Int.natCast_pow]
    rfl
  rw [Num.u8_ofNat, e]
  omega
theorem cell_shr (x j : Nat) : #[Value.int .u8 ((x : Int) / 2 ^ (8 * j) % 256)] = (bs [UInt8.ofNat (x / 256 ^ j)]).toArray := by
  rw [byte_shr]
  rfl
theorem put_take_succ {x k m : Nat} (hk : Num.IsW k) (h : Num.fits x k = true) (hm : m < k) : (Num.put x k).take (m + 1) = (Num.put x k).take m ++ [UInt8.ofNat (x / 256 ^ (k - 1 - m))] := by
  have := Num.be_get x hm
  rw [Num.put, if_pos h, Int.toNat_natCast, Int.toNat_natCast, List.take_add_one, this]
  rfl

set_option maxHeartbeats 1000000 in
theorem putRow_fit (A : Option Addr) (n c : Nat) (l : List Int) (k : Nat) (w : World) (hw : Wd w) (h : RdI w A n c l) (hk : Num.IsW k) (hn : n ≤ 65536) :
    Calls Tryd.prog 31 #[.slice A n c, .int .i64 (k : Int)] w (Gives w 5 (Num.putRow l k)) := by
  have hk8 := hk.pos
  go_enter Tryd.func31, Tryd.ntmps31
  go_wp2
  go_loopw [5, 11] (fun v i w' => ∃ j : Nat, j ≤ n ∧ i = .int .i64 j ∧ ((l.take j).all fun n => Num.fits n k) = true ∧ Own w' w.heap.size 5 v (upTo l k j).length (upTo l k j) ∧ Below w.heap.size w w') (fun _ i _ => n - (intOf i).toNat)
  case atStart => exact ⟨0, Nat.zero_le _, rfl, rfl, World.ownsRow_nil _ _ _ _, Below.refl _ _⟩
  case round =>
    obtain ⟨j, hj, rfl, hall, hown, hb⟩ := hrel
    have HA := hidT hall
    have hUL := upTo_length (l := l) (k := (k : Int)) j
    clear hall
    by_cases hjn : j < n
    · obtain ⟨b, o, x, rfl, hx, hc⟩ := RdI.at_ (RdV.below h hb) hjn
      have HX := hidT hx
      clear hx
      by_cases hf : Num.fits x k = true
      · go_wp2_with fail
        with_reducible refine (fits_is x k true _ (hw.below hb) hf).mono ?_
        rintro e w1 ⟨rfl, hb1⟩
        have ho1 := Own.later hown hb1
        obtain ⟨xn, rfl, hxn, hxm, hx62⟩ := Num.fits_nat hk hf
        have HF := hidT hf
        clear hf hxn hxm
        have hb01 := bthen hb hb1
        go_wp2
        go_loopw [5, 8] (fun v i w' => ∃ m : Nat, m ≤ k ∧ i = .int .i64 ((k : Int) - 1 - m) ∧ Own w' w.heap.size 5 v ((upTo l k j).length + m) (upTo l k j ++ (Num.put xn k).take m) ∧ Below w.heap.size w w') (fun _ i _ => (intOf i + 1).toNat)
        case atStart => exact ⟨0, Nat.zero_le _, by simp, by simpa using ho1, hb01⟩
        case round =>
          obtain ⟨m, hm, rfl, hown2, hb2⟩ := hrel
          by_cases hmk : m < k
          · have q1 : decide ((0 : Int) ≤ (k : Int) - 1 - m) = true := by simp; omega
            have HT := hidT (put_take_succ (x := xn) hk HF.out hmk)
            have HB := hidT (cell_shr xn (k - 1 - m))
            go_wp2_with (
              at_builtin
              refine wpList_app rfl (.tmp 25) (.tmp 31) 23 rfl w.heap.size 5 info5 Tryd.underlying23 _ ((upTo l k j).length + m) (upTo l k j ++ (Num.put xn k).take m) rfl ?own _ 1 1 [UInt8.ofNat (xn / 256 ^ (k - 1 - m))] rfl ?rd ?h63 ?hb ?_
              case own => exact Own.later hown2 ((Below.refl _ _).alloc (Nat.le_refl _) _)
              case rd => exact Rd.litAt _ _ _ _ _ HB.out 1 rfl (by decide) _ rfl
              case h63 => omega
              case hb => exact Nat.le_trans hb2.size (by simp)
              intro v3 w3 hown3 hb3)
            go_roundw
            case rel =>
              refine ⟨m + 1, by omega, by go_num, ?_, (hb2.alloc hb2.size _).trans hb3⟩
              rw [HT.out, ← List.append_assoc]
              exact hown3
            case measure => simp [intOf]; omega
          · have q1 : decide ((0 : Int) ≤ (k : Int) - 1 - m) = false := by simp; omega
            have hmk2 : m = k := by omega
            subst hmk2
            have HS : Hid (upTo l m (j + 1) = upTo l m j ++ (Num.put xn m).take m) := by
              rw [upTo_succ HX.out, List.take_of_length_le (by rw [Num.put_length HF.out]; simp)]
              exact hidT rfl
            have HL : Hid ((upTo l m (j + 1)).length = (upTo l m j).length + m) := by
              rw [upTo_succ HX.out, List.length_append, Num.put_length HF.out]
              exact hidT (by simp)
            have HA2 : Hid (((l.take (j + 1)).all fun n => Num.fits n m) = true) := by
              rw [List.take_add_one, List.all_append, HA.out, HX.out]
              exact hidT (by simpa using HF.out)
            go_wp2
            go_roundw
            case rel =>
              refine ⟨j + 1, by omega, by go_num, HA2.out, ?_, hb2⟩
              rw [HL.out, HS.out]
              exact hown2
            case measure => simp [intOf]; omega
      · have hf2 : Num.fits x k = false := by simpa using hf
        have HP : Hid (Num.putRow l k = []) := by
          unfold Num.putRow
          rw [if_neg ?_]
          · exact hidT rfl
          · intro hh
            rw [List.all_eq_true] at hh
            exact hf (hh x (List.mem_of_getElem? HX.out))
        go_wp2_with fail
        with_reducible refine (fits_is x k false _ (hw.below hb) hf2).mono ?_
        rintro e w1 ⟨rfl, hb1⟩
        go_wp2
        go_ret
        rw [HP.out]
        exact ⟨none, 0, rfl, World.ownsRow_nil _ _ _ _, bthen hb hb1⟩
    · have hjn2 : j = n := by omega
      subst hjn2
      have HP : Hid (Num.putRow l k = upTo l k j) := by
        have hl := RdI.size h
        have ht : l.take j = l := List.take_of_length_le (by omega)
        have ha := HA.out
        unfold Num.putRow upTo
        rw [ht] at ha ⊢
        rw [if_pos ha]
        exact hidT rfl
      go_wp2
      go_ret
      rw [HP.out]
      exact Own.gives hown hb
end Go.Proofs.YtpahkkblkdkefaaDoor
