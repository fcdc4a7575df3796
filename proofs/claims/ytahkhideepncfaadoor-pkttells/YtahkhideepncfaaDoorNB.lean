import Derived.Test.YtahkhideepncfaaDoorNA
import Derived.Deep.QuietTactic
import Derived.BigQuiet
set_option maxRecDepth 100000
/- What the document's own most, Fits, Put and Same come to. -/
namespace Go.Proofs.YtahkhideepncfaaDoor
open Go.RowKit
set_option linter.unusedVariables false

theorem rmost_any (k : Int) (w : World) :
    Calls Tryd.prog 50 #[.int .i64 k] w fun e w' => e = .returned (.int .i64 (Num.most k)) ∧ w = w' := by
  rcases Num.most_cases k with ⟨rfl, e⟩ | ⟨rfl, e⟩ | ⟨rfl, e⟩ | ⟨h1, h2, h8, e⟩
  · rw [e]
    go_enter Tryd.func50, Tryd.ntmps50
    go_wp2
    go_ret
    exact ⟨rfl, rfl⟩
  · rw [e]
    go_enter Tryd.func50, Tryd.ntmps50
    go_wp2
    go_ret
    exact ⟨rfl, rfl⟩
  · rw [e]
    go_enter Tryd.func50, Tryd.ntmps50
    go_wp2
    go_ret
    exact ⟨rfl, rfl⟩
  · rw [e]
    have q1 : (k == 1) = false := by simpa using h1
    have q2 : (k == 2) = false := by simpa using h2
    have q8 : (k == 8) = false := by simpa using h8
    clear e h1 h2 h8
    go_enter Tryd.func50, Tryd.ntmps50
    go_wp2
    go_ret
    exact ⟨rfl, rfl⟩

theorem rfits_is (n k : Int) (b : Bool) (w : World) (h : Num.fits n k = b) :
    Calls Tryd.prog 60 #[.int .i64 n, .int .i64 k] w fun e w' => e = .returned (.bool b) ∧ w = w' := by
  unfold Num.fits at h
  by_cases h0 : 0 ≤ n
  · have q0 : decide (0 ≤ n) = true := by simpa using h0
    rw [q0, Bool.true_and] at h
    go_enter Tryd.func60, Tryd.ntmps60
    go_wp2_with (go_at_call 50; ((with_reducible refine (rmost_any _ _).mono ?_); rintro e w1 ⟨rfl, rfl⟩))
    go_ret
    exact ⟨rfl, rfl⟩
  · have q0 : decide (0 ≤ n) = false := by simpa using h0
    rw [q0, Bool.false_and] at h
    subst h
    go_enter Tryd.func60, Tryd.ntmps60
    go_wp2
    go_ret
    exact ⟨rfl, rfl⟩

/-- The last so many bytes are laid. -/
def lastOf (k x j : Nat) : List UInt8 := List.replicate (k - j) 0 ++ (Num.be k x).drop (k - j)
theorem lastOf_zero (k x : Nat) : lastOf k x 0 = List.replicate k 0 := by
  unfold lastOf
  rw [List.drop_eq_nil_of_le (by rw [Num.be_length]; omega)]
  simp
theorem lastOf_full (k x : Nat) : lastOf k x k = Num.be k x := by
  unfold lastOf
  simp
theorem lastOf_succ {k x j : Nat} (hj : j < k) : lastOf k x (j + 1) = (lastOf k x j).set (k - 1 - j) (UInt8.ofNat (x / 256 ^ j)) := by
  unfold lastOf
  have hg := Num.be_get (k := k) (i := k - 1 - j) x (by omega)
  rw [show k - 1 - (k - 1 - j) = j from by omega] at hg
  rw [List.set_append_left _ _ (by simp; omega)]
  rw [show k - j = (k - (j + 1)) + 1 from by omega, List.replicate_succ', List.set_append_right _ _ (by simp; omega), List.length_replicate, show k - 1 - j - (k - (j + 1)) = 0 from by omega, List.set_cons_zero, List.append_assoc]
  congr 1
  have hlt : k - (j + 1) < (Num.be k x).length := by rw [Num.be_length]; omega
  rw [List.drop_eq_getElem_cons hlt]
  rw [show k - 1 - j = k - (j + 1) from by omega, List.getElem?_eq_getElem hlt] at hg
  injection hg with hg
  rw [hg]
  rfl
theorem lastOf_length (k x j : Nat) (hj : j ≤ k) : (lastOf k x j).length = k := by
  unfold lastOf
  rw [List.length_append, List.length_replicate, List.length_drop, Num.be_length]
  omega

set_option maxHeartbeats 1000000 in
theorem rput_yes (x k : Nat) (w : World) (hk : Num.IsW k) (hf : Num.fits x k = true) (hx : x ≤ 4611686018427387904) :
    Calls Tryd.prog 39 #[.int .i64 (x : Int), .int .i64 (k : Int)] w (Gives w 5 (Num.put x k)) := by
  have hk8 := hk.pos
  have HP : Hid (Num.put x k = Num.be k x) := by rw [Num.put, if_pos hf, Int.toNat_natCast, Int.toNat_natCast]; exact hidT rfl
  have HF := hidT hf
  clear hf
  go_enter Tryd.func39, Tryd.ntmps39
  go_wp2_with fail
  with_reducible refine (rfits_is _ _ true _ HF.out).mono ?_
  rintro e w1 ⟨rfl, rfl⟩
  go_wp2_with (
    at_make
    refine wpList_mkV rfl (.tmp 13) (.tmp 13) 23 rfl 5 (.int .u8 0) 1 info5 rfl (by omega) Tryd.underlying23 _ _ _ k rfl rfl rfl (by omega) ?_
    intro w2 hown2 hb2)
  go_loopw [0, 7] (fun v i w' => ∃ j y : Nat, j ≤ k ∧ i = .int .i64 ((k : Int) - 1 - j) ∧ v = .int .i64 (y : Int) ∧ y ≤ 4611686018427387904 ∧ Hid (y = x / 256 ^ j) ∧ Own w' w.heap.size 5 (.slice (some ⟨w.heap.size, 0, none⟩) k k) k (lastOf k x j) ∧ Below w.heap.size w w') (fun _ i _ => (intOf i + 1).toNat)
  case atStart =>
    refine ⟨0, x, Nat.zero_le _, by simp, rfl, hx, hidT (by simp), ?_, hb2⟩
    rw [lastOf_zero]
    simpa [Own, bs] using hown2
  case round =>
    obtain ⟨j, y, hj, rfl, rfl, hy, HY, hown, hb⟩ := hrel
    by_cases hjk : j < k
    · have q1 : decide ((0 : Int) ≤ (k : Int) - 1 - j) = true := by simp; omega
      obtain ⟨z, hz⟩ : ∃ z, (lastOf k x j)[k - 1 - j]? = some z := ⟨_, List.getElem?_eq_getElem (by rw [lastOf_length _ _ _ (by omega)]; omega)⟩
      have hcz := hown.cell hz
      have hfz := hown.frozen (k - 1 - j)
      have e1 : ((k : Int) - 1 - j) = ((k - 1 - j : Nat) : Int) := by omega
      clear hz
      have HS := hidT (lastOf_succ (x := x) hjk)
      have HB : Hid (((y : Int) % 256) = ((UInt8.ofNat (x / 256 ^ j)).toNat : Int)) := by
        rw [Num.u8_ofNat, ← HY.out]
        exact hidT (by omega)
      go_wp2
      refine ⟨⟨j + 1, y / 256, by omega, congrArg _ (by omega), congrArg _ (by omega), by omega, ?_, ?_, hb.setCell (p := ⟨w.heap.size, k - 1 - j, none⟩) (Nat.le_refl _) _⟩, by simp [intOf]; omega⟩
      · rw [HY.out, Nat.div_div_eq_div_mul, Nat.pow_succ]
        exact hidT rfl
      · rw [HS.out, HB.out]
        exact hown.set_ _ _
    · have q1 : decide ((0 : Int) ≤ (k : Int) - 1 - j) = false := by simp; omega
      obtain rfl : j = k := by omega
      rw [lastOf_full] at hown
      go_wp2
      go_ret
      rw [HP.out]
      exact Own.gives hown hb

theorem rput_any (x k : Int) (w : World) :
    Calls Tryd.prog 39 #[.int .i64 x, .int .i64 k] w (Gives w 5 (Num.put x k)) := by
  by_cases hf : Num.fits x k = true
  · obtain ⟨j, rfl, hj⟩ := Num.fits_width hf
    obtain ⟨m, rfl, _, _, hm⟩ := Num.fits_nat hj hf
    exact rput_yes m j w hj hf hm
  · have hf2 : Num.fits x k = false := by simpa using hf
    rw [Num.put_not hf2]
    go_enter Tryd.func39, Tryd.ntmps39
    go_wp2_with fail
    with_reducible refine (rfits_is _ _ false _ hf2).mono ?_
    rintro e w1 ⟨rfl, rfl⟩
    go_wp2
    go_ret
    exact ⟨none, 0, rfl, World.ownsRow_nil _ _ _ _, Below.refl _ _⟩

theorem take_ne {a b : List Int} {j : Nat} {x y : Int} (ha : a[j]? = some x) (hb : b[j]? = some y) (h : x ≠ y) : decide (a = b) = false := by
  rw [decide_eq_false_iff_not]
  rintro rfl
  rw [ha] at hb
  injection hb with hb
  exact h hb
theorem take_snocI {a b : List Int} {j : Nat} {x : Int} (ha : a[j]? = some x) (hb : b[j]? = some x) (h : a.take j = b.take j) : a.take (j + 1) = b.take (j + 1) := by
  rw [List.take_add_one, List.take_add_one, h, ha, hb]

set_option maxHeartbeats 400000 in
theorem rsame_any (A : Option Addr) (n c : Nat) (a : List Int) (B : Option Addr) (m d : Nat) (b : List Int) (w : World) (ha : RdI w A n c a) (hb : RdI w B m d b) :
    Calls Tryd.prog 34 #[.slice A n c, .slice B m d] w fun e w' => e = .returned (.bool (decide (a = b))) ∧ ∃ k, w' = w.drewN k := by
  have hn := RdV.le ha
  have hla := RdI.size ha
  have hlb := RdI.size hb
  by_cases hnm : n = m
  · subst hnm
    have HA := hidT hla
    have HB := hidT hlb
    clear hla hlb
    go_enter Tryd.func34, Tryd.ntmps34
    go_wp2
    go_loopw [5] (fun i w' => ∃ j : Nat, j ≤ n ∧ i = .int .i64 j ∧ Hid (a.take j = b.take j) ∧ ∃ k, w' = w.drewN k) (fun i _ => n - (intOf i).toNat)
    case atStart => exact ⟨0, Nat.zero_le _, rfl, hidT rfl, 0, rfl⟩
    case round =>
      obtain ⟨j, hj, rfl, HT, kk, rfl⟩ := hrel
      by_cases hjn : j < n
      · obtain ⟨b1, o1, x, rfl, hx, hcx⟩ := RdI.at_ ha hjn
        obtain ⟨b2, o2, y, rfl, hy, hcy⟩ := RdI.at_ hb hjn
        have HX := hidT hx
        have HY := hidT hy
        clear hx hy
        by_cases hxy : x = y
        · subst hxy
          go_wp2
          go_quiet (fail)
          go_wp2
          exact ⟨⟨j + 1, by omega, by go_num, hidT (take_snocI HX.out HY.out HT.out), _, rfl⟩, by simp [intOf]; omega⟩
        · have q1 : (x != y) = true := by simpa using hxy
          have q2 : (x == y) = false := by simpa using hxy
          go_wp2
          go_quiet (fail)
          have HD := hidT (take_ne HX.out HY.out hxy)
          go_wp2
          go_ret
          rw [HD.out]
          exact ⟨rfl, _, World.drewN_drewN _ _ _⟩
      · obtain rfl : j = n := by omega
        have HD : Hid (decide (a = b) = true) := by
          have h1 := HT.out
          rw [List.take_of_length_le (by rw [HA.out]; omega), List.take_of_length_le (by rw [HB.out]; omega)] at h1
          exact hidT (by simpa using h1)
        go_wp2
        go_ret
        rw [HD.out]
        exact ⟨rfl, _, rfl⟩
  · have HD : Hid (decide (a = b) = false) := by
      refine hidT ?_
      rw [decide_eq_false_iff_not]
      rintro rfl
      omega
    have q1 : ((n : Int) != (m : Int)) = true := by simp; omega
    have q2 : ((n : Int) == (m : Int)) = false := by simp; omega
    have q3 : (n == m) = false := by simpa using hnm
    have q4 : (n != m) = true := by simpa using hnm
    clear hla hlb
    go_enter Tryd.func34, Tryd.ntmps34
    go_wp2
    go_ret
    rw [HD.out]
    exact ⟨rfl, 0, rfl⟩

theorem rsame_is (A : Option Addr) (n c : Nat) (a : List Int) (B : Option Addr) (m d : Nat) (b : List Int) (w : World) (ha : RdI w A n c a) (hb : RdI w B m d b) (t : Bool) (ht : decide (a = b) = t) :
    Calls Tryd.prog 34 #[.slice A n c, .slice B m d] w fun e w' => e = .returned (.bool t) ∧ Below w.heap.size w w' := by
  refine (rsame_any A n c a B m d b w ha hb).mono ?_
  rintro e w' ⟨rfl, k, rfl⟩
  rw [ht]
  exact ⟨rfl, drawn_below _ _⟩
end Go.Proofs.YtahkhideepncfaaDoor
/- What the document's own Take, PutRow and TakeRow come to. -/
namespace Go.Proofs.YtahkhideepncfaaDoor
open Go.RowKit
set_option linter.unusedVariables false

theorem rtake_arg (A : Option Addr) (n c : Nat) (k : Int) (w : World) (hk : Num.most k < 0) :
    Calls Tryd.prog 24 #[.slice A n c, .int .i64 k] w (TakeIs w 0 [] 1) := by
  have q1 : decide (Num.most k < 0) = true := by simpa using hk
  go_enter Tryd.func24, Tryd.ntmps24
  go_wp2_with fail
  with_reducible refine (rmost_any _ _).mono ?_
  rintro e w1 ⟨rfl, rfl⟩
  go_wp2
  exact bodyPost_ret (v := .tuple #[.int .i64 0, .slice none 0 0, .int .i64 1]) (by simp [results, Tryd.results24, go_sem]) rfl ⟨none, 0, rfl, World.ownsRow_nil _ _ _ _, Below.refl _ _⟩

theorem rtake_short (A : Option Addr) (n c : Nat) (k : Nat) (w : World) (hk : Num.IsW k) (hn : n < k) :
    Calls Tryd.prog 24 #[.slice A n c, .int .i64 (k : Int)] w (TakeIs w 0 [] 2) := by
  have q0 : decide (Num.most k < 0) = false := by have := (Num.most_lt hk).1; simp; omega
  have q1 : decide ((n : Int) < (k : Int)) = true := by simp; omega
  have q1' : decide (n < k) = true := by simp; omega
  go_enter Tryd.func24, Tryd.ntmps24
  go_wp2_with fail
  with_reducible refine (rmost_any _ _).mono ?_
  rintro e w1 ⟨rfl, rfl⟩
  go_wp2
  exact bodyPost_ret (v := .tuple #[.int .i64 0, .slice none 0 0, .int .i64 2]) (by simp [results, Tryd.results24, go_sem]) rfl ⟨none, 0, rfl, World.ownsRow_nil _ _ _ _, Below.refl _ _⟩

set_option maxHeartbeats 1000000 in
theorem rtake_long (A : Option Addr) (n c : Nat) (l : List UInt8) (k : Nat) (w : World) (h : Rd w A n c l) (hk : Num.IsW k) (hn : k ≤ n) (hn2 : n ≤ 65536) :
    Calls Tryd.prog 24 #[.slice A n c, .int .i64 (k : Int)] w (if Num.most k < (Num.val (l.take k) : Int) then TakeIs w 0 [] 2 else TakeIs w (Num.val (l.take k)) (l.drop k) 0) := by
  have hk8 := hk.pos
  have hc := h.2.1
  obtain ⟨b, o, rfl, _⟩ := h.at_ (by omega)
  have q1 : decide ((n : Int) < (k : Int)) = false := by simp; omega
  have q1' : decide (n < k) = false := by simp; omega
  have hm0 := (Num.most_lt hk).1
  have hmm : Num.most k ≤ 4611686018427387904 := by rcases hk with rfl | rfl | rfl <;> decide
  have q0 : decide (Num.most k < 0) = false := by simp; omega
  have t1 : (0 : Int) ≤ (k : Int) := by omega
  have t2 : (k : Int) ≤ (n : Int) := by omega
  have HL := hidT h.1
  go_enter Tryd.func24, Tryd.ntmps24
  go_wp2_with fail
  with_reducible refine (rmost_any _ _).mono ?_
  rintro e w1 ⟨rfl, rfl⟩
  go_wp2
  go_loop [7, 8] (fun s i => ∃ j : Nat, j ≤ k ∧ i = .int .i64 j ∧ s = .int .u64 (Num.val (l.take j) : Nat)) (fun _ i => k - (intOf i).toNat)
  case atStart => exact ⟨0, Nat.zero_le _, rfl, rfl⟩
  case round =>
    obtain ⟨j, hj, rfl, rfl⟩ := hrel
    by_cases hjk : j < k
    · have hlt := val_lt7 (l := l) (k := j) (by omega)
      obtain ⟨b', o', hA, hcell⟩ := h.at_ (by omega)
      injection hA with hA
      injection hA with e1 e2
      subst e1; subst e2
      obtain ⟨x, hx, hc1⟩ := hcell j (by omega)
      clear hcell
      have HS := hidT (val_take_succ hx)
      have hxb := Num.byte_lt x
      clear hx
      go_wp2
      go_round
      case rel => exact ⟨j + 1, by omega, by go_num, congrArg _ (by rw [HS.out]; omega)⟩
      case measure => simp [intOf]; omega
    · obtain rfl : j = k := by omega
      have hlt := val_lt8 (l := l) (k := j) (by omega)
      by_cases hv : Num.most j < (Num.val (l.take j) : Int)
      · have q2 : decide (Num.most j < (Num.val (l.take j) : Int)) = true := by simpa using hv
        go_wp2_with fail
        with_reducible refine (rmost_any _ _).mono ?_
        rintro e w1 ⟨rfl, rfl⟩
        go_wp2
        refine bodyPost_ret (v := .tuple #[.int .i64 0, .slice none 0 0, .int .i64 2]) (by simp [results, Tryd.results24, go_sem]) rfl ?_
        exact ⟨none, 0, rfl, World.ownsRow_nil _ _ _ _, Below.refl _ _⟩
      · have q2 : decide (Num.most j < (Num.val (l.take j) : Int)) = false := by simpa using hv
        have hv2 : (Num.val (l.take j) : Int) ≤ 4611686018427387904 := by omega
        have hd := h.drop (k := j) hn
        have HD : Hid ((l.drop j).length = n - j) := by rw [List.length_drop, HL.out]; exact hidT rfl
        obtain ⟨r, HR⟩ : ∃ r, Hid (l.drop j = r) := ⟨_, hidT rfl⟩
        rw [HR.out] at hd HD
        by_cases hcj : c = j
        · obtain rfl : n = j := by omega
          subst hcj
          have hre : r = [] := List.eq_nil_of_length_eq_zero (by rw [HD.out]; omega)
          subst hre
          go_wp2_with fail
          with_reducible refine (rmost_any _ _).mono ?_
          rintro e w1 ⟨rfl, rfl⟩
          go_wp2_with (
            at_builtin
            refine wpList_app rfl (.tmp 36) (.tmp 39) 23 rfl w.heap.size 5 info5 Tryd.underlying23 (.slice (some ⟨w.heap.size, 0, none⟩) 0 0) 0 [] rfl ?own _ 0 0 [] rfl ?rd (by omega) ?hb ?_
            case own => exact World.ownsRow_made (base := w.heap.size) (e := 5) (size := 1) w #[] 0 (Nat.le_refl _) (Nat.zero_le _) rfl
            case rd => exact Rd.empty _ _
            case hb => simp
            intro v3 w3 hown3 hb3)
          obtain ⟨A3, c3, rfl, _⟩ := hown3.rd
          refine bodyPost_ret (v := .tuple #[.int .i64 (Num.val (l.take c) : Nat), .slice A3 0 c3, .int .i64 0]) (by simp [results, Tryd.results24, go_sem]) rfl ?_
          rw [HR.out]
          exact ⟨A3, c3, rfl, hown3, ((Below.refl _ _).alloc (Nat.le_refl _) _).trans hb3⟩
        · go_wp2_with fail
          with_reducible refine (rmost_any _ _).mono ?_
          rintro e w1 ⟨rfl, rfl⟩
          go_wp2_with (
            at_builtin
            refine wpList_app rfl (.tmp 36) (.tmp 39) 23 rfl w.heap.size 5 info5 Tryd.underlying23 (.slice (some ⟨w.heap.size, 0, none⟩) 0 0) 0 [] rfl ?own _ (n - j) (c - j) r rfl ?rd (by omega) ?hb ?_
            case own => exact World.ownsRow_made (base := w.heap.size) (e := 5) (size := 1) w #[] 0 (Nat.le_refl _) (Nat.zero_le _) rfl
            case rd => exact hd.alloc _
            case hb => simp
            intro v3 w3 hown3 hb3)
          obtain ⟨A3, c3, rfl, _⟩ := hown3.rd
          refine bodyPost_ret (v := .tuple #[.int .i64 (Num.val (l.take j) : Nat), .slice A3 (0 + (n - j)) c3, .int .i64 0]) (by simp [results, Tryd.results24, go_sem]) rfl ?_
          rw [HR.out]
          refine ⟨A3, c3, ?_, ?_, ((Below.refl _ _).alloc (Nat.le_refl _) _).trans hb3⟩
          · rw [HD.out, Nat.zero_add]
          · rw [HD.out]
            rw [Nat.zero_add] at hown3
            exact hown3

theorem rtake_any (A : Option Addr) (n c : Nat) (l : List UInt8) (k : Int) (w : World) (h : Rd w A n c l) (hn : n ≤ 65536) :
    Calls Tryd.prog 24 #[.slice A n c, .int .i64 k] w (TakeIs w (Num.num l k) (Num.rest l k) (Num.code l k)) := by
  have hl := h.1
  by_cases hk : Num.most k < 0
  · have hc : Num.code l k = 1 := by unfold Num.code; rw [if_pos hk]
    obtain ⟨h1, h2⟩ := Num.code_bad (l := l) (k := k) (by omega)
    rw [h1, h2, hc]
    exact rtake_arg A n c k w hk
  · obtain ⟨j, rfl, hj⟩ := Num.isW_of hk
    by_cases h2 : n < j
    · have hc : Num.code l j = 2 := by unfold Num.code; rw [if_neg hk, if_pos (by rw [hl]; simpa using h2)]
      obtain ⟨h3, h4⟩ := Num.code_bad (l := l) (k := j) (by omega)
      rw [h3, h4, hc]
      exact rtake_short A n c j w hj h2
    · have hr := rtake_long A n c l j w h hj (by omega) hn
      by_cases h3 : Num.most j < (Num.val (l.take j) : Int)
      · have hc : Num.code l j = 2 := by unfold Num.code; rw [if_neg hk, if_neg (by rw [hl]; simpa using h2), if_pos (by simpa using h3)]
        obtain ⟨h4, h5⟩ := Num.code_bad (l := l) (k := j) (by omega)
        rw [if_pos h3] at hr
        rw [h4, h5, hc]
        exact hr
      · have hc : Num.code l j = 0 := by unfold Num.code; rw [if_neg hk, if_neg (by rw [hl]; simpa using h2), if_neg (by simpa using h3)]
        have h4 : Num.num l j = Num.val (l.take j) := by unfold Num.num; rw [if_pos hc, Int.toNat_natCast]
        have h5 : Num.rest l j = l.drop j := by unfold Num.rest; rw [if_pos hc, Int.toNat_natCast]
        rw [if_neg h3] at hr
        rw [h4, h5, hc]
        exact hr

set_option maxHeartbeats 1000000 in
theorem rputRow_any (A : Option Addr) (n c : Nat) (l : List Int) (k : Int) (w : World) (h : RdI w A n c l) (hn : n ≤ 65536) :
    Calls Tryd.prog 40 #[.slice A n c, .int .i64 k] w (Gives w 5 (Num.putRow l k)) := by
  go_enter Tryd.func40, Tryd.ntmps40
  go_wp2
  go_loopw [5, 6] (fun v i w' => ∃ j : Nat, j ≤ n ∧ i = .int .i64 j ∧ Hid (((l.take j).all fun n => Num.fits n k) = true) ∧ Own w' w.heap.size 5 v (upTo l k j).length (upTo l k j) ∧ Below w.heap.size w w') (fun _ i _ => n - (intOf i).toNat)
  case atStart => exact ⟨0, Nat.zero_le _, rfl, hidT rfl, World.ownsRow_nil _ _ _ _, Below.refl _ _⟩
  case round =>
    obtain ⟨j, hj, rfl, HA, hown, hb⟩ := hrel
    have hUL := upTo_length (l := l) (k := k) j
    by_cases hjn : j < n
    · obtain ⟨b, o, x, rfl, hx, hc⟩ := RdI.at_ (RdV.below h hb) hjn
      have HX := hidT hx
      clear hx
      by_cases hf : Num.fits x k = true
      · have HF := hidT hf
        have HS := hidT (upTo_succ (k := k) HX.out)
        have hpl : (Num.put x k).length ≤ 8 := by
          obtain ⟨q, rfl, hq⟩ := Num.fits_width hf
          have := hq.pos
          rw [Num.put_length hf, Int.toNat_natCast]
          omega
        have HA2 : Hid (((l.take (j + 1)).all fun n => Num.fits n k) = true) := by
          rw [List.take_add_one, List.all_append, HA.out, HX.out]
          exact hidT (by simpa using HF.out)
        clear hf
        go_wp2_with fail
        with_reducible refine (rfits_is _ _ true _ HF.out).mono ?_
        rintro e w1 ⟨rfl, rfl⟩
        go_wp2_with fail
        with_reducible refine (rput_any _ _ _).mono ?_
        rintro e w1 ⟨A1, c1, rfl, ho1, hb1⟩
        have hown1 := Own.later hown hb1
        go_wp2_with (
          at_builtin
          refine wpList_app rfl (.tmp 22) (.tmp 28) 23 rfl w.heap.size 5 info5 Tryd.underlying23 _ (upTo l k j).length (upTo l k j) rfl hown1 A1 _ c1 (Num.put x k) rfl ho1.same ?h63 ?hb ?_
          case h63 => omega
          case hb => exact (bthen hb hb1).size
          intro v3 w3 hown3 hb3)
        go_roundw
        case rel =>
          refine ⟨j + 1, by omega, by go_num, HA2, ?_, (bthen hb hb1).trans hb3⟩
          rw [HS.out, List.length_append]
          exact hown3
        case measure => simp [intOf]; omega
      · have hf2 : Num.fits x k = false := by simpa using hf
        have HP : Hid (Num.putRow l k = []) := by
          unfold Num.putRow
          rw [if_neg ?_]
          · exact hidT rfl
          · intro hh
            rw [List.all_eq_true] at hh
            exact hf (hh x (List.mem_of_getElem? HX.out))
        go_wp2_with fail
        with_reducible refine (rfits_is _ _ false _ hf2).mono ?_
        rintro e w1 ⟨rfl, rfl⟩
        go_wp2
        go_ret
        rw [HP.out]
        exact ⟨none, 0, rfl, World.ownsRow_nil _ _ _ _, hb⟩
    · obtain rfl : j = n := by omega
      have HP : Hid (Num.putRow l k = upTo l k j) := by
        have hl := RdI.size h
        have ht : l.take j = l := List.take_of_length_le (by omega)
        have ha := HA.out
        unfold Num.putRow upTo
        rw [ht] at ha ⊢
        rw [if_pos ha]
        exact hidT rfl
      go_wp2
      go_ret
      rw [HP.out]
      exact Own.gives hown hb

theorem rtakeRow_arg (A : Option Addr) (n c : Nat) (l : List UInt8) (many k : Int) (w : World) (h : Num.most k < 0 ∨ many < 0) :
    Calls Tryd.prog 25 #[.slice A n c, .int .i64 many, .int .i64 k] w (RowIs w (Num.rowOf l many k)) := by
  have HR := hidT (Num.rowOf_arg (l := l) h)
  by_cases hk : Num.most k < 0
  · have q0 : decide (Num.most k < 0) = true := by simpa using hk
    clear h hk
    go_enter Tryd.func25, Tryd.ntmps25
    go_wp2_with fail
    with_reducible refine (rmost_any _ _).mono ?_
    rintro e w1 ⟨rfl, rfl⟩
    go_wp2
    exact bodyPost_ret (v := .tuple #[.slice none 0 0, .slice none 0 0, .int .i64 1]) (by simp [results, Tryd.results25, go_sem]) rfl (RowIs.none_ HR.out (Below.refl _ _))
  · have q0 : decide (Num.most k < 0) = false := by simpa using hk
    have q1 : decide (many < 0) = true := by simp; omega
    clear h hk
    go_enter Tryd.func25, Tryd.ntmps25
    go_wp2_with fail
    with_reducible refine (rmost_any _ _).mono ?_
    rintro e w1 ⟨rfl, rfl⟩
    go_wp2
    exact bodyPost_ret (v := .tuple #[.slice none 0 0, .slice none 0 0, .int .i64 1]) (by simp [results, Tryd.results25, go_sem]) rfl (RowIs.none_ HR.out (Below.refl _ _))

set_option maxHeartbeats 2000000 in
theorem rtakeRow_in (A : Option Addr) (n c : Nat) (l : List UInt8) (m k : Nat) (w : World) (h : Rd w A n c l) (hn : n ≤ 65536) (hk : Num.IsW k) (hm : m ≤ n / k) :
    Calls Tryd.prog 25 #[.slice A n c, .int .i64 (m : Int), .int .i64 (k : Int)] w (RowIs w (Num.rowOf l m k)) := by
  have hk8 := hk.pos
  have hmo := (Num.most_lt hk).1
  have hmn : m ≤ 65536 := Nat.le_trans hm (Nat.le_trans (Nat.div_le_self n k) hn)
  have HRW : Hid (Num.rowOf l m k = match Num.takes k m l with | some p => (p.1, p.2, 0) | none => ([], [], 2)) := by
    unfold Num.rowOf
    rw [if_neg (by omega), Int.toNat_natCast]
    exact hidT rfl
  have q0 : decide (Num.most k < 0) = false := by simp; omega
  have q1 : decide ((m : Int) < 0) = false := by simp
  have hq := quot n k hn
  generalize n / k = q at hq hm
  have q2 : decide (q < m) = false := by simpa using hm
  have q3 : decide ((q : Int) < (m : Int)) = false := by simpa using hm
  go_enter Tryd.func25, Tryd.ntmps25
  go_wp2_with fail
  with_reducible refine (rmost_any _ _).mono ?_
  rintro e w1 ⟨rfl, rfl⟩
  go_wp2_with (
    at_builtin
    refine wpList_app rfl (.tmp 33) (.tmp 34) 23 rfl w.heap.size 5 info5 Tryd.underlying23 (.slice (some ⟨w.heap.size, 0, none⟩) 0 0) 0 [] rfl ?own A n c l rfl (h.alloc _) (by omega) ?hb ?_
    case own => exact World.ownsRow_made (base := w.heap.size) (e := 5) (size := 1) w #[] 0 (Nat.le_refl _) (Nat.zero_le _) rfl
    case hb => simp
    intro v2 w2 hown2 hb2)
  clear hq q2 q3
  go_loopw [9, 10, 11] (fun u v i w' => ∃ (j : Nat) (B : Option Addr) (nb cb : Nat) (acc : List Int) (r : List UInt8), j ≤ m ∧ i = .int .i64 j ∧ v = .slice B nb cb ∧ nb ≤ 65536 ∧ Own w' w.heap.size 5 (.slice B nb cb) nb r ∧ Num.Tk k m l j acc r ∧
      OwnV w' w.heap.size 3 u j (is acc) ∧ Below w.heap.size w w') (fun _ _ i _ => m - (intOf i).toNat)
  case atStart =>
    obtain ⟨A2, c2, rfl, _⟩ := hown2.rd
    exact ⟨0, A2, 0 + n, c2, [], l, Nat.zero_le _, rfl, rfl, by omega, hown2, Num.Tk.zero _ _ _, World.ownsRow_nil _ _ _ _, ((Below.refl _ _).alloc (Nat.le_refl _) _).trans hb2⟩
  case round =>
    obtain ⟨j, B, nb, cb, acc, r, hj, rfl, rfl, hnb, hro, hT, hown, hb⟩ := hrel
    have HT := hidT hT
    have hr := Own.same hro
    have HL := hidT hr.1
    clear hT
    by_cases hjm : j < m
    · have hjm1 : decide (j < m) = true := by simpa using hjm
      have hjm2 : decide ((j : Int) < (m : Nat)) = true := by simp; omega
      have hf := rtake_any B nb cb r k _ hr hnb
      by_cases hc0 : Num.code r k = 0
      · have hrl : (Num.rest r k).length ≤ 65536 := by rw [Num.rest_length hc0, HL.out]; omega
        have HTS := hidT (HT.out.succ hjm hc0)
        have hnum := Num.num_le r k
        rw [hc0] at hf
        generalize Num.num r k = x at hf HTS hnum
        generalize Num.rest r k = r2 at hf HTS hrl
        clear hc0
        go_wp2_with fail
        with_reducible refine hf.mono ?_
        rintro e w3 ⟨A3, c3, rfl, hr3, hb3⟩
        have ho3 := OwnV.later hown hb3
        go_wp2_with (
          at_builtin
          refine wpList_appV rfl (.tmp 51) (.tmp 53) 22 rfl w.heap.size 3 (.int .i64 0) 8 info3 rfl (by omega) Tryd.underlying22 _ j (is acc) rfl ?own _ 1 1 (is [(x : Int)]) rfl ?rd ?one ?h63 ?hb ?_
          case own => exact OwnV.later ho3 ((Below.refl _ _).alloc (Nat.le_refl _) _)
          case rd => exact RdV.lit w3 _ _ _ _ rfl 1 rfl (by decide) _ rfl
          case one => exact is_one _
          case h63 => omega
          case hb => exact Nat.le_trans (bthen hb hb3).size (by simp)
          intro v4 w4 hown4 hb4 hg4)
        rw [← is_append] at hown4
        have hr4 : Own w4 w.heap.size 5 (.slice A3 r2.length c3) r2.length r2 :=
          OwnV.grown (OwnV.later (OwnV.mono hr3 hb.size) ((Below.refl _ _).alloc (Nat.le_refl _) _)) (OwnV.later ho3 ((Below.refl _ _).alloc (Nat.le_refl _) _)) (by decide) hg4
        have hb34 : Below w.heap.size w w4 := ((bthen hb hb3).alloc (bthen hb hb3).size _).trans hb4
        go_roundw
        case rel => exact ⟨j + 1, A3, r2.length, c3, acc ++ [(x : Int)], r2, by omega, by go_num, rfl, hrl, hr4, HTS.out, hown4, hb34⟩
        case measure => simp [intOf]; omega
      · have HR : Hid (Num.rowOf l m k = ([], [], 2)) := by rw [HRW.out, HT.out.bad hjm hc0]; exact hidT rfl
        have h2 := Num.code_width (l := r) (k := (k : Int)) (by omega) hc0
        rw [h2, (Num.code_bad hc0).1, (Num.code_bad hc0).2] at hf
        clear h2 hc0
        go_wp2_with fail
        with_reducible refine hf.mono ?_
        rintro e w3 ⟨A3, c3, rfl, hr3, hb3⟩
        go_wp2
        exact bodyPost_ret (v := .tuple #[.slice none 0 0, .slice none 0 0, .int .i64 2]) (by simp [results, Tryd.results25, go_sem]) rfl (RowIs.none_ HR.out (bthen hb hb3))
    · obtain rfl : j = m := by omega
      have hjm1 : decide (j < j) = false := by simp
      have hjm2 : decide ((j : Int) < (j : Nat)) = false := by simp
      have HR : Hid (Num.rowOf l j k = (acc, r, 0)) := by rw [HRW.out, HT.out.done]; exact hidT rfl
      have HAL := hidT HT.out.1
      obtain ⟨A4, c4, rfl, _⟩ := OwnV.rd hown
      go_wp2
      refine bodyPost_ret (v := .tuple #[.slice A4 j c4, .slice B nb cb, .int .i64 0]) (by simp [results, Tryd.results25, go_sem]) rfl ?_
      rw [HR.out]
      refine ⟨A4, c4, B, cb, ?_, ?_, ?_, hb⟩
      · simp only [HAL.out, HL.out]
      · simp only [HAL.out]; exact hown
      · simp only [HL.out]; exact hro

set_option maxHeartbeats 2000000 in
theorem rtakeRow_few (A : Option Addr) (n c : Nat) (l : List UInt8) (m k : Nat) (w : World) (h : Rd w A n c l) (hn : n ≤ 65536) (hk : Num.IsW k) (hm : n / k < m) :
    Calls Tryd.prog 25 #[.slice A n c, .int .i64 (m : Int), .int .i64 (k : Int)] w (RowIs w (Num.rowOf l m k)) := by
  have hk8 := hk.pos
  have hmo := (Num.most_lt hk).1
  have hqn : n / k ≤ 65536 := Nat.le_trans (Nat.div_le_self n k) hn
  have HN : Hid (Num.takes k (n / k + 1) l = none) := by
    refine Num.takes_none ?_
    rw [h.1, Int.toNat_natCast]
    exact Nat.lt_mul_of_div_lt (Nat.lt_succ_self _) (by omega)
  have HRM : Hid (Num.rowOf l m k = ([], [], 2)) := by
    refine Num.rowOf_none (by omega) (Num.takes_none ?_)
    rw [h.1, Int.toNat_natCast]
    exact (Nat.div_lt_iff_lt_mul (by omega)).1 hm
  have q0 : decide (Num.most k < 0) = false := by simp; omega
  have q1 : decide ((m : Int) < 0) = false := by simp
  have hq := quot n k hn
  generalize n / k = q at hq hm hqn HN
  have q2 : decide (q < m) = true := by simpa using hm
  have q3 : decide ((q : Int) < (m : Int)) = true := by simpa using hm
  go_enter Tryd.func25, Tryd.ntmps25
  go_wp2_with fail
  with_reducible refine (rmost_any _ _).mono ?_
  rintro e w1 ⟨rfl, rfl⟩
  go_wp2_with (
    at_builtin
    refine wpList_app rfl (.tmp 33) (.tmp 34) 23 rfl w.heap.size 5 info5 Tryd.underlying23 (.slice (some ⟨w.heap.size, 0, none⟩) 0 0) 0 [] rfl ?own A n c l rfl (h.alloc _) (by omega) ?hb ?_
    case own => exact World.ownsRow_made (base := w.heap.size) (e := 5) (size := 1) w #[] 0 (Nat.le_refl _) (Nat.zero_le _) rfl
    case hb => simp
    intro v2 w2 hown2 hb2)
  clear hq q2 q3
  obtain ⟨M, HM⟩ : ∃ M : Nat, Hid (M = q + 1) := ⟨_, hidT rfl⟩
  have hMq : M ≤ 65537 := by rw [HM.out]; omega
  rw [show ((q : Int) + 1) = (M : Int) from by rw [HM.out]; omega]
  rw [← HM.out] at HN
  go_loopw [9, 10, 11] (fun u v i w' => ∃ (j : Nat) (B : Option Addr) (nb cb : Nat) (acc : List Int) (r : List UInt8), j ≤ M ∧ i = .int .i64 j ∧ v = .slice B nb cb ∧ nb ≤ 65536 ∧ Own w' w.heap.size 5 (.slice B nb cb) nb r ∧ Num.Tk k M l j acc r ∧
      OwnV w' w.heap.size 3 u j (is acc) ∧ Below w.heap.size w w') (fun _ _ i _ => M - (intOf i).toNat)
  case atStart =>
    obtain ⟨A2, c2, rfl, _⟩ := hown2.rd
    exact ⟨0, A2, 0 + n, c2, [], l, Nat.zero_le _, rfl, rfl, by omega, hown2, Num.Tk.zero _ _ _, World.ownsRow_nil _ _ _ _, ((Below.refl _ _).alloc (Nat.le_refl _) _).trans hb2⟩
  case round =>
    obtain ⟨j, B, nb, cb, acc, r, hj, rfl, rfl, hnb, hro, hT, hown, hb⟩ := hrel
    have HT := hidT hT
    have hr := Own.same hro
    have HL := hidT hr.1
    clear hT
    by_cases hjm : j < M
    · have hjm1 : decide (j < M) = true := by simpa using hjm
      have hjm2 : decide ((j : Int) < (M : Nat)) = true := by simp; omega
      have hf := rtake_any B nb cb r k _ hr hnb
      by_cases hc0 : Num.code r k = 0
      · have hrl : (Num.rest r k).length ≤ 65536 := by rw [Num.rest_length hc0, HL.out]; omega
        have HTS := hidT (HT.out.succ hjm hc0)
        have hnum := Num.num_le r k
        rw [hc0] at hf
        generalize Num.num r k = x at hf HTS hnum
        generalize Num.rest r k = r2 at hf HTS hrl
        clear hc0
        go_wp2_with fail
        with_reducible refine hf.mono ?_
        rintro e w3 ⟨A3, c3, rfl, hr3, hb3⟩
        have ho3 := OwnV.later hown hb3
        go_wp2_with (
          at_builtin
          refine wpList_appV rfl (.tmp 51) (.tmp 53) 22 rfl w.heap.size 3 (.int .i64 0) 8 info3 rfl (by omega) Tryd.underlying22 _ j (is acc) rfl ?own _ 1 1 (is [(x : Int)]) rfl ?rd ?one ?h63 ?hb ?_
          case own => exact OwnV.later ho3 ((Below.refl _ _).alloc (Nat.le_refl _) _)
          case rd => exact RdV.lit w3 _ _ _ _ rfl 1 rfl (by decide) _ rfl
          case one => exact is_one _
          case h63 => omega
          case hb => exact Nat.le_trans (bthen hb hb3).size (by simp)
          intro v4 w4 hown4 hb4 hg4)
        rw [← is_append] at hown4
        have hr4 : Own w4 w.heap.size 5 (.slice A3 r2.length c3) r2.length r2 :=
          OwnV.grown (OwnV.later (OwnV.mono hr3 hb.size) ((Below.refl _ _).alloc (Nat.le_refl _) _)) (OwnV.later ho3 ((Below.refl _ _).alloc (Nat.le_refl _) _)) (by decide) hg4
        have hb34 : Below w.heap.size w w4 := ((bthen hb hb3).alloc (bthen hb hb3).size _).trans hb4
        go_roundw
        case rel => exact ⟨j + 1, A3, r2.length, c3, acc ++ [(x : Int)], r2, by omega, by go_num, rfl, hrl, hr4, HTS.out, hown4, hb34⟩
        case measure => simp [intOf]; omega
      · have h2 := Num.code_width (l := r) (k := (k : Int)) (by omega) hc0
        rw [h2, (Num.code_bad hc0).1, (Num.code_bad hc0).2] at hf
        clear h2 hc0
        go_wp2_with fail
        with_reducible refine hf.mono ?_
        rintro e w3 ⟨A3, c3, rfl, hr3, hb3⟩
        go_wp2
        exact bodyPost_ret (v := .tuple #[.slice none 0 0, .slice none 0 0, .int .i64 2]) (by simp [results, Tryd.results25, go_sem]) rfl (RowIs.none_ HRM.out (bthen hb hb3))
    · obtain rfl : j = M := by omega
      have := HT.out.done
      rw [HN.out] at this
      cases this

theorem rtakeRow_any (A : Option Addr) (n c : Nat) (l : List UInt8) (many k : Int) (w : World) (h : Rd w A n c l) (hn : n ≤ 65536) :
    Calls Tryd.prog 25 #[.slice A n c, .int .i64 many, .int .i64 k] w (RowIs w (Num.rowOf l many k)) := by
  by_cases ha : Num.most k < 0 ∨ many < 0
  · exact rtakeRow_arg A n c l many k w ha
  · obtain ⟨j, rfl, hj⟩ := Num.isW_of (k := k) (by omega)
    obtain ⟨m, rfl⟩ := Int.eq_ofNat_of_zero_le (a := many) (by omega)
    by_cases hm : n / j < m
    · exact rtakeRow_few A n c l m j w h hn hj hm
    · exact rtakeRow_in A n c l m j w h hn hj (by omega)
end Go.Proofs.YtahkhideepncfaaDoor
