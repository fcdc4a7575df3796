/- The iterator over pieces: what frag.pieces and its closure come to. -/
import Derived.Test.YtapdlcfaghbjhaaFrag2
import Derived.RangeFuncBox
import Derived.RangeFuncLeaves
import Derived.Shelf.Abstract
import Derived.WalkKit
import Derived.OwnWalkIn
import Derived.TacticsInMore
import Derived.LoopNIn
import Derived.LoopIn
import Derived.Maps.AppendAt
set_option maxRecDepth 100000
namespace Go.Proofs.Ytapdlcfaghbjhaa
open Go.RowKit Go.Shelf
set_option linter.unusedVariables false

attribute [local go_sem] Oper.semAt_some

/-- A slice, as three things. -/
abbrev Sl := Option Addr × Nat × Nat
def Sl.val (x : Sl) : Value := .slice x.1 x.2.1 x.2.2
/-- The pieces of a slice in a block, or of nil. -/
def pvOf (A : Option Addr) (n m k : Nat) : Sl := (A.map fun a => ⟨a.block, a.off + k * m, none⟩, min m (n - k * m), min m (n - k * m))
def uptoV (A : Option Addr) (n m k : Nat) : List Sl := (List.range k).map (pvOf A n m)
theorem uptoV_succ (A : Option Addr) (n m k : Nat) : uptoV A n m (k + 1) = uptoV A n m k ++ [pvOf A n m k] := by simp [uptoV, List.range_succ]
theorem uptoV_length (A : Option Addr) (n m k : Nat) : (uptoV A n m k).length = k := by simp [uptoV]
/-- What a round keeps: the box of mtu. -/
def KpB (Bm : Nat) (W W' : World) : Prop := W'.heap[Bm]? = W.heap[Bm]?
def lenV : Value → Nat
  | .slice _ n _ => n
  | _ => 0

set_option maxRecDepth 100000 in
set_option maxHeartbeats 2000000 in
theorem pieces1_in (F : Fence) (fu : Nat) (hF : F.fn 26) (hro : F.round = none) (hfu : 1 ≤ fu) (l Bs Bm g n c m : Nat) (hm : 1 ≤ m) (hnc : n ≤ c) (hcm : c ≤ 9223372036854775807) (hmm : m ≤ 9223372036854775807) (J Jx : List Sl → World → Prop)
    (hY : ∀ pre x W, J pre W → pre.length < manyN n m → YieldAt F (fu - 1) Try.prog l #[Sl.val x] W fun e W' =>
      (e = .returned (.bool true) ∧ J (pre ++ [x]) W' ∧ KpB Bm W W') ∨ (e = .returned (.bool false) ∧ Jx (pre ++ [x]) W'))
    (W : World) (hBs : W.cell? ⟨Bs, 0, none⟩ = some (.slice (some ⟨g, 0, none⟩) n c)) (hBm : W.heap[Bm]? = some (.cells #[.int .i64 (m : Int)] 3 (0, 0))) (h0 : J [] W) :
    CallsIn F fu Try.prog 26 #[.func (.yield l) #[] #[], .pointer (some ⟨Bs, 0, none⟩), .pointer (some ⟨Bm, 0, none⟩)] W fun e W' => (∃ v, e = .returned v) ∧
      ((∃ ys, ys = uptoV (some ⟨g, 0, none⟩) n m (manyN n m) ∧ J ys W') ∨ (∃ pre, True ∧ Jx pre W')) := by
  have HY := hidT hY
  clear hY
  refine callsIn_of_wp Try.func26 rfl hF ?_ hro
  simp only [Try.ntmps26, List.size_toArray, List.length_cons, List.length_nil, Nat.reduceAdd, Nat.reduceSub, Array.replicate_succ, Array.replicate_zero, List.push_toArray, List.append_toArray, List.nil_append, List.cons_append]
  gi_wp2
  gi_loopw [4] (fun v wr => ∃ k O N C : Nat, Hid (Mid n m k) ∧ Hid (O = k * m) ∧ Hid (N = n - k * m) ∧ Hid (C = c - k * m) ∧ v = .slice (some ⟨g, O, none⟩) N C ∧ J (uptoV (some ⟨g, 0, none⟩) n m k) wr ∧ wr.heap[Bm]? = some (.cells #[.int .i64 (m : Int)] 3 (0, 0)))
    (fun v _ => lenV v)
  case atStart => exact ⟨0, 0, n, c, hidT (.inl rfl), hidT (by omega), hidT (by omega), hidT (by omega), rfl, h0, hBm⟩
  case round =>
    obtain ⟨k, O, N, C, HM, HO, HN, HC, rfl, hJs, hb⟩ := hrel
    have hcb := cell_at hb 0 rfl
    have hNC : N ≤ C := by have := HN.out; have := HC.out; omega
    have hCC : C ≤ 9223372036854775807 := by have := HC.out; omega
    by_cases hlt : m < N
    · have q1 : decide ((m : Int) < (N : Int)) = true := by simp; omega
      have hp : pvOf (some ⟨g, 0, none⟩) n m k = (some ⟨g, O, none⟩, m, m) := by
        have e : min m (n - k * m) = m := by have := HN.out; omega
        have := HO.out
        simp [pvOf, e, this]
      obtain ⟨fn, tmps, assign, body, hy, hR⟩ := HY.out (uptoV (some ⟨g, 0, none⟩) n m k) (some ⟨g, O, none⟩, m, m) wr hJs (by rw [uptoV_length]; exact HM.out.lt hm)
      dsimp only [Sl.val] at hy
      have q2 : (m : Int) ≤ (C : Int) := by omega
      have q3 : (m : Int) ≤ (N : Int) := by omega
      have q4 : ¬ C = m := by omega
      have HP := hidT hp
      clear hp
      gi_wp2
      refine hR.mono ?_
      rintro e W3 (⟨rfl, hJ3, hk3⟩ | ⟨rfl, hJx3⟩)
      · have hb3 : W3.heap[Bm]? = some (.cells #[.int .i64 (m : Int)] 3 (0, 0)) := hk3.trans hb
        have hcb3 := cell_at hb3 0 rfl
        gi_wp2
        go_roundw
        case rel => exact ⟨k + 1, O + m, N - m, C - m, hidT (HM.out.next (by have := HN.out; omega)), hidT (by have := HO.out; rw [Nat.succ_mul]; omega), hidT (by have := HN.out; rw [Nat.succ_mul]; omega), hidT (by have := HC.out; rw [Nat.succ_mul]; omega), rfl, by rw [uptoV_succ, HP.out]; exact hJ3, hb3⟩
        case measure => simp [lenV]; omega
      · gi_wp2
        refine bodyPost_ret (results_none rfl _ _ _) rfl ?_
        exact ⟨⟨_, rfl⟩, .inr ⟨_, trivial, hJx3⟩⟩
    · have q1 : decide ((m : Int) < (N : Int)) = false := by simp; omega
      have hp : pvOf (some ⟨g, 0, none⟩) n m k = (some ⟨g, O, none⟩, N, N) := by
        have e : min m (n - k * m) = N := by have := HN.out; omega
        have := HO.out
        simp [pvOf, e, this]
      have HP := hidT hp
      have HE : Hid (manyN n m = k + 1) := hidT (HM.out.last hm (by have := HN.out; omega))
      obtain ⟨fn, tmps, assign, body, hy, hR⟩ := HY.out (uptoV (some ⟨g, 0, none⟩) n m k) (some ⟨g, O, none⟩, N, N) wr hJs (by rw [uptoV_length]; exact HM.out.lt hm)
      dsimp only [Sl.val] at hy
      clear hp
      gi_wp2
      refine hR.mono ?_
      rintro e W3 (⟨rfl, hJ3, hk3⟩ | ⟨rfl, hJx3⟩)
      · gi_wp2
        go_end0
        exact ⟨⟨_, rfl⟩, .inl ⟨_, by rw [HE.out, uptoV_succ, HP.out], hJ3⟩⟩
      · gi_wp2
        go_end0
        exact ⟨⟨_, rfl⟩, .inr ⟨_, trivial, hJx3⟩⟩

set_option maxRecDepth 100000 in
set_option maxHeartbeats 2000000 in
theorem pieces1_nil (F : Fence) (fu : Nat) (hF : F.fn 26) (hro : F.round = none) (hfu : 1 ≤ fu) (l Bs Bm m : Nat) (hm : 1 ≤ m) (hmm : m ≤ 9223372036854775807) (J Jx : List Sl → World → Prop)
    (hY : ∀ pre x W, J pre W → pre.length < manyN 0 m → YieldAt F (fu - 1) Try.prog l #[Sl.val x] W fun e W' =>
      (e = .returned (.bool true) ∧ J (pre ++ [x]) W' ∧ KpB Bm W W') ∨ (e = .returned (.bool false) ∧ Jx (pre ++ [x]) W'))
    (W : World) (hBs : W.cell? ⟨Bs, 0, none⟩ = some (.slice none 0 0)) (hBm : W.heap[Bm]? = some (.cells #[.int .i64 (m : Int)] 3 (0, 0))) (h0 : J [] W) :
    CallsIn F fu Try.prog 26 #[.func (.yield l) #[] #[], .pointer (some ⟨Bs, 0, none⟩), .pointer (some ⟨Bm, 0, none⟩)] W fun e W' => (∃ v, e = .returned v) ∧
      ((∃ ys, ys = uptoV none 0 m (manyN 0 m) ∧ J ys W') ∨ (∃ pre, True ∧ Jx pre W')) := by
  have HY := hidT hY
  clear hY
  refine callsIn_of_wp Try.func26 rfl hF ?_ hro
  simp only [Try.ntmps26, List.size_toArray, List.length_cons, List.length_nil, Nat.reduceAdd, Nat.reduceSub, Array.replicate_succ, Array.replicate_zero, List.push_toArray, List.append_toArray, List.nil_append, List.cons_append]
  gi_wp2
  gi_loopw [4] (fun v wr => v = .slice none 0 0 ∧ J [] wr ∧ wr.heap[Bm]? = some (.cells #[.int .i64 (m : Int)] 3 (0, 0)))
    (fun v _ => 0)
  case atStart => exact ⟨rfl, h0, hBm⟩
  case round =>
    obtain ⟨rfl, hJs, hb⟩ := hrel
    have hcb := cell_at hb 0 rfl
    have q1 : decide ((m : Int) < 0) = false := by simp
    have HE : Hid (uptoV none 0 m (manyN 0 m) = [(none, 0, 0)]) := hidT (by simp [manyN, uptoV, pvOf])
    obtain ⟨fn, tmps, assign, body, hy, hR⟩ := HY.out [] (none, 0, 0) wr hJs (manyN_pos 0 m)
    dsimp only [Sl.val] at hy
    gi_wp2
    refine hR.mono ?_
    rintro e W3 (⟨rfl, hJ3, hk3⟩ | ⟨rfl, hJx3⟩)
    · gi_wp2
      go_end0
      exact ⟨⟨_, rfl⟩, .inl ⟨_, HE.out.symm, hJ3⟩⟩
    · gi_wp2
      go_end0
      exact ⟨⟨_, rfl⟩, .inr ⟨_, trivial, hJx3⟩⟩

set_option maxHeartbeats 1000000 in
theorem pieces_in (F : Fence) (fu : Nat) (hF : F.fn 23) (hro : F.round = none) (A : Option Addr) (n c : Nat) (m : Int) (w : World) :
    CallsIn F fu Try.prog 23 #[.slice A n c, .int .i64 m] w fun e w' => e = .returned (.func (.func 26) #[] #[.pointer (some ⟨w.heap.size, 0, none⟩), .pointer (some ⟨w.heap.size + 1, 0, none⟩)]) ∧ w' = (w.alloc (.cells #[.slice A n c] 22)).alloc (.cells #[.int .i64 m] 3) := by
  refine callsIn_of_wp Try.func23 rfl hF ?_ hro
  simp only [Try.ntmps23, List.size_toArray, List.length_cons, List.length_nil, Nat.reduceAdd, Nat.reduceSub, Array.replicate_succ, Array.replicate_zero, List.push_toArray, List.append_toArray, List.nil_append, List.cons_append]
  gi_wp2
  go_ret
  exact ⟨rfl, rfl⟩

/-- Where the bytes lie: in a block from its start, or nowhere. -/
def AtStart (A : Option Addr) (n c : Nat) : Prop := (A = none ∧ n = 0 ∧ c = 0) ∨ ∃ g, A = some ⟨g, 0, none⟩
theorem pieces_stops (F : Fence) (fu : Nat) (hF : F.fn 26) (hro : F.round = none) (hfu : 1 ≤ fu) (Bs Bm : Nat) (A : Option Addr) (n c m : Nat) (hA : AtStart A n c) (hm : 1 ≤ m) (hnc : n ≤ c) (hcm : c ≤ 9223372036854775807) (hmm : m ≤ 9223372036854775807)
    (w : World) (hBs : Bs < w.heap.size) (hBm : Bm < w.heap.size) (hc : w.cell? ⟨Bs, 0, none⟩ = some (.slice A n c)) (hb : w.heap[Bm]? = some (.cells #[.int .i64 (m : Int)] 3 (0, 0))) :
    SeqStopsK F fu Try.prog 26 #[.pointer (some ⟨Bs, 0, none⟩), .pointer (some ⟨Bm, 0, none⟩)] (fun x : Sl => #[Sl.val x]) (KpB Bm) (fun ys => ys = uptoV A n m (manyN n m)) (fun _ => True) (manyN n m) w := fun l J Jx W hW _ _ hY h0 => by
  have hc' := (hW.cell (p := ⟨Bs, 0, none⟩) hBs).trans hc
  have hb' := (hW.block _ hBm).trans hb
  rcases hA with ⟨rfl, rfl, rfl⟩ | ⟨g, rfl⟩
  · exact pieces1_nil F fu hF hro hfu l Bs Bm m hm hmm J Jx hY W hc' hb' h0
  · exact pieces1_in F fu hF hro hfu l Bs Bm g n c m hm hnc hcm hmm J Jx hY W hc' hb' h0
end Go.Proofs.Ytapdlcfaghbjhaa
