/- What num's first, Take and TakeRow come to. -/
import Derived.Test.YtpahkkblkdkefaaDoorNum2
import Derived.Test.YtpahkkblkdkefaaDoorClone
namespace Go.Proofs.YtpahkkblkdkefaaDoor
open Go.RowKit
set_option linter.unusedVariables false

set_option maxRecDepth 100000 in
set_option maxHeartbeats 1000000 in
theorem first_ok (A : Option Addr) (n c : Nat) (l : List UInt8) (k : Nat) (w : World) (hw : Wd w) (h : Rd w A n c l) (hk : Num.IsW k) (hn : k ≤ n) (hv : (Num.val (l.take k) : Int) ≤ Num.most k) :
    Calls Tryd.prog 54 #[.slice A n c, .int .i64 (k : Int)] w (FirstIs w (Num.val (l.take k)) 0) := by
  have hk8 := hk.pos
  have hc := h.2.1
  obtain ⟨b, o, rfl, _⟩ := h.at_ (by omega)
  have q1 : decide ((n : Int) < (k : Int)) = false := by simp; omega
  have q1' : decide (n < k) = false := by simp; omega
  have hm := Num.most_lt hk
  have hmm : Num.most k ≤ 4611686018427387904 := by rcases hk with rfl | rfl | rfl <;> decide
  have hm0 := hm.1
  clear hm
  go_enter Tryd.func54, Tryd.ntmps54
  go_wp2
  refine wp_scope_straight ?_
  go_wp2_with fail
  with_reducible refine (bound_yes k _ hw hk).mono ?_
  rintro e w1 ⟨rfl, hb1⟩
  have h1 := h.below hb1
  go_wp2
  go_loop [6, 27] (fun s i => ∃ j : Nat, j ≤ k ∧ i = .int .i64 j ∧ s = .int .u64 (Num.val (l.take j) : Nat)) (fun _ i => k - (intOf i).toNat)
  case atStart => exact ⟨0, Nat.zero_le _, rfl, rfl⟩
  case round =>
    obtain ⟨j, hj, rfl, rfl⟩ := hrel
    by_cases hjk : j < k
    · have hlt := val_lt7 (l := l) (k := j) (by omega)
      obtain ⟨b', o', hA, hcell⟩ := h1.at_ (by omega)
      injection hA with hA
      injection hA with e1 e2
      subst e1; subst e2
      obtain ⟨x, hx, hc1⟩ := hcell j (by omega)
      clear hcell
      have HS := hidT (val_take_succ hx)
      have HO := hidT (or_low _ x hlt)
      have hxb := Num.byte_lt x
      clear hx
      go_wp2
      rw [HO.out, ← HS.out]
      go_round
      case rel => exact ⟨j + 1, by omega, by go_num, rfl⟩
      case measure => simp [intOf]; omega
    · obtain rfl : j = k := by omega
      have hlt := val_lt8 (l := l) (k := j) (by omega)
      have q2 : decide (Num.most j < (Num.val (l.take j) : Int)) = false := by simp; omega
      go_wp2
      go_ret2
      exact ⟨rfl, hb1⟩

theorem first_any (A : Option Addr) (n c : Nat) (l : List UInt8) (k : Int) (w : World) (hw : Wd w) (h : Rd w A n c l) :
    Calls Tryd.prog 54 #[.slice A n c, .int .i64 k] w (FirstIs w (Num.num l k) (Num.code l k)) := by
  have hl := h.1
  by_cases hk : Num.most k < 0
  · have hc : Num.code l k = 1 := by unfold Num.code; rw [if_pos hk]
    rw [(Num.code_bad (l := l) (k := k) (by omega)).1, hc]
    exact first_no A n c k w hw hk
  · obtain ⟨j, rfl, hj⟩ := Num.isW_of hk
    by_cases h2 : n < j
    · have hc : Num.code l j = 2 := by unfold Num.code; rw [if_neg hk, if_pos (by rw [hl]; simpa using h2)]
      rw [(Num.code_bad (l := l) (k := j) (by omega)).1, hc]
      exact first_short A n c j w hw hj h2
    · by_cases h3 : Num.most j < (Num.val (l.take j) : Int)
      · have hc : Num.code l j = 2 := by unfold Num.code; rw [if_neg hk, if_neg (by rw [hl]; simpa using h2), if_pos (by simpa using h3)]
        rw [(Num.code_bad (l := l) (k := j) (by omega)).1, hc]
        exact first_long A n c l j w hw h hj (by omega) h3
      · have hc : Num.code l j = 0 := by unfold Num.code; rw [if_neg hk, if_neg (by rw [hl]; simpa using h2), if_neg (by simpa using h3)]
        have hn : Num.num l j = Num.val (l.take j) := by unfold Num.num; rw [if_pos hc, Int.toNat_natCast]
        rw [hn, hc]
        exact first_ok A n c l j w hw h hj (by omega) (by omega)

/-- A number, bytes, and a code. -/
def TakeIs (w : World) (m : Int) (r : List UInt8) (k : Int) (e : Ending) (w' : World) : Prop :=
  ∃ A c, e = .returned (.tuple #[.int .i64 m, .slice A r.length c, .int .i64 k]) ∧ Own w' w.heap.size 5 (.slice A r.length c) r.length r ∧ Below w.heap.size w w'

theorem take_any (A : Option Addr) (n c : Nat) (l : List UInt8) (k : Int) (w : World) (hw : Wd w) (h : Rd w A n c l) (hn : n ≤ 65536) :
    Calls Tryd.prog 35 #[.slice A n c, .int .i64 k] w (TakeIs w (Num.num l k) (Num.rest l k) (Num.code l k)) := by
  have hl := h.1
  by_cases hc0 : Num.code l k = 0
  · rcases Num.code_cases l k with ⟨h1, _⟩ | ⟨h1, _⟩ | ⟨_, hk, h3, h4⟩
    · omega
    · omega
    obtain ⟨j, rfl, hj⟩ := Num.isW_of hk
    have hj8 := hj.pos
    rw [Int.toNat_natCast] at h3
    have hcap := h.2.1
    obtain ⟨b, o, rfl, _⟩ := h.at_ (by omega)
    have hr : Num.rest l j = l.drop j := by unfold Num.rest; rw [if_pos hc0, Int.toNat_natCast]
    have hlen : (l.drop j).length = n - j := by rw [List.length_drop, hl]
    have HL := hidT hlen
    have hfirst := first_any _ n c l j w hw h
    rw [hr]
    rw [hc0] at hfirst ⊢
    have hd := h.drop (k := j) (by omega)
    have hnum := Num.num_le l j
    generalize Num.num l j = x at hfirst hnum ⊢
    generalize hld : l.drop j = r at hd HL ⊢
    have q1 : (0 : Int) ≤ (j : Int) := by omega
    have q2 : (j : Int) ≤ (n : Int) := by omega
    have q3 : j ≤ n := by omega
    clear hr hc0 hk h3 h4 hlen hld
    by_cases hcj : c = j
    · obtain rfl : n = j := by omega
      subst hcj
      go_enter Tryd.func35, Tryd.ntmps35
      go_wp2_with fail
      with_reducible refine hfirst.mono ?_
      rintro e w1 ⟨rfl, hb1⟩
      go_wp2_with fail
      have hrn : r = [] := List.eq_nil_of_length_eq_zero (by rw [HL.out]; omega)
      subst hrn
      with_reducible refine (clone_any _ _ _ [] _ (Rd.empty _ _) (by omega)).mono ?_
      rintro e w2 ⟨A2, c2, rfl, ho2, hb2⟩
      go_wp2
      exact bodyPost_ret (v := .tuple #[.int .i64 (x : Int), .slice A2 0 c2, .int .i64 0]) (by simp [results, Tryd.results35, go_sem]) rfl ⟨A2, c2, rfl, ho2.mono hb1.size, bthen hb1 hb2⟩
    · go_enter Tryd.func35, Tryd.ntmps35
      go_wp2_with fail
      with_reducible refine hfirst.mono ?_
      rintro e w1 ⟨rfl, hb1⟩
      go_wp2_with fail
      with_reducible refine (clone_any _ _ _ r _ (hd.below hb1) (by omega)).mono ?_
      rintro e w2 ⟨A2, c2, rfl, ho2, hb2⟩
      go_wp2
      exact bodyPost_ret (v := .tuple #[.int .i64 (x : Int), .slice A2 r.length c2, .int .i64 0]) (by simp [results, Tryd.results35, go_sem]) rfl ⟨A2, c2, rfl, ho2.mono hb1.size, bthen hb1 hb2⟩
  · obtain ⟨h1, h2⟩ := Num.code_bad hc0
    have hfirst := first_any _ n c l k w hw h
    rw [h1] at hfirst
    rw [h1, h2]
    have q1 : (Num.code l k != 0) = true := by simpa using hc0
    have q2 : (Num.code l k == 0) = false := by simpa using hc0
    clear hc0 h1 h2
    go_enter Tryd.func35, Tryd.ntmps35
    go_wp2_with fail
    with_reducible refine hfirst.mono ?_
    rintro e w1 ⟨rfl, hb1⟩
    go_wp2
    exact bodyPost_ret (v := .tuple #[.int .i64 0, .slice none 0 0, .int .i64 (Num.code l k)]) (by simp [results, Tryd.results35, go_sem]) rfl ⟨none, 0, rfl, World.ownsRow_nil _ _ _ _, hb1⟩

theorem info3 : (Tryd.prog.info? 3).map (fun i => (i.zero, i.size, i.bytes)) = some (some (.int .i64 0), 1, 8) := by kernel_rfl

/-- A row of numbers, bytes, and a code. -/
def RowIs (w : World) (p : List Int × List UInt8 × Int) (e : Ending) (w' : World) : Prop :=
  ∃ A c B d, e = .returned (.tuple #[.slice A p.1.length c, .slice B p.2.1.length d, .int .i64 p.2.2]) ∧ OwnV w' w.heap.size 3 (.slice A p.1.length c) p.1.length (is p.1) ∧ Own w' w.heap.size 5 (.slice B p.2.1.length d) p.2.1.length p.2.1 ∧ Below w.heap.size w w'
theorem RowIs.none_ {w w' : World} {p : List Int × List UInt8 × Int} {k : Int} (hp : p = ([], [], k)) (hb : Below w.heap.size w w') : RowIs w p (.returned (.tuple #[.slice none 0 0, .slice none 0 0, .int .i64 k])) w' := by
  subst hp
  exact ⟨none, 0, none, 0, rfl, World.ownsRow_nil _ _ _ _, World.ownsRow_nil _ _ _ _, hb⟩

theorem takeRow_arg (A : Option Addr) (n c : Nat) (l : List UInt8) (many k : Int) (w : World) (hw : Wd w) (h : Num.most k < 0 ∨ many < 0) :
    Calls Tryd.prog 36 #[.slice A n c, .int .i64 many, .int .i64 k] w (RowIs w (Num.rowOf l many k)) := by
  by_cases hk : Num.most k < 0
  · go_enter Tryd.func36, Tryd.ntmps36
    go_wp2_with fail
    with_reducible refine (bound_no k _ hw hk).mono ?_
    rintro e w1 ⟨rfl, hb1⟩
    go_wp2
    exact bodyPost_ret (v := .tuple #[.slice none 0 0, .slice none 0 0, .int .i64 1]) (by simp [results, Tryd.results36, go_sem]) rfl (RowIs.none_ (Num.rowOf_arg h) hb1)
  · obtain ⟨j, rfl, hj⟩ := Num.isW_of hk
    have q1 : decide (many < 0) = true := by simp; omega
    have HR := hidT (Num.rowOf_arg (l := l) h)
    clear h hk
    go_enter Tryd.func36, Tryd.ntmps36
    go_wp2_with fail
    with_reducible refine (bound_yes j _ hw hj).mono ?_
    rintro e w1 ⟨rfl, hb1⟩
    go_wp2
    exact bodyPost_ret (v := .tuple #[.slice none 0 0, .slice none 0 0, .int .i64 1]) (by simp [results, Tryd.results36, go_sem]) rfl (RowIs.none_ HR.out hb1)

theorem quot (n k : Nat) (hn : n ≤ 65536) : wrap64 ((n : Int) / (k : Int)) = ((n / k : Nat) : Int) := by
  have h1 : ((n : Int) / (k : Int)) = ((n / k : Nat) : Int) := (Int.natCast_ediv n k).symm
  have h2 : n / k ≤ n := Nat.div_le_self n k
  rw [h1]
  generalize n / k = q at h2
  exact IntWalk.wrap64_in _ (by omega)

theorem takeRow_few (A : Option Addr) (n c : Nat) (l : List UInt8) (m k : Nat) (w : World) (hw : Wd w) (h : Rd w A n c l) (hn : n ≤ 65536) (hk : Num.IsW k) (hm : n / k < m) :
    Calls Tryd.prog 36 #[.slice A n c, .int .i64 (m : Int), .int .i64 (k : Int)] w (RowIs w (Num.rowOf l m k)) := by
  have hk8 := hk.pos
  have hmo := (Num.most_lt hk).1
  have HR : Hid (Num.rowOf l m k = ([], [], 2)) := by
    refine Num.rowOf_none (by omega) (Num.takes_none ?_)
    rw [h.1, Int.toNat_natCast]
    exact (Nat.div_lt_iff_lt_mul (by omega)).1 hm
  have q1 : decide ((m : Int) < 0) = false := by simp
  have hq := quot n k hn
  generalize n / k = q at hq hm
  have q2 : decide (q < m) = true := by simpa using hm
  have q3 : decide ((q : Int) < (m : Int)) = true := by simpa using hm
  go_enter Tryd.func36, Tryd.ntmps36
  go_wp2_with fail
  with_reducible refine (bound_yes k _ hw hk).mono ?_
  rintro e w1 ⟨rfl, hb1⟩
  go_wp2
  exact bodyPost_ret (v := .tuple #[.slice none 0 0, .slice none 0 0, .int .i64 2]) (by simp [results, Tryd.results36, go_sem]) rfl (RowIs.none_ HR.out hb1)

theorem RdI.of_own {w : World} {base g n c : Nat} {t : TypeId} {l : List Int} (h : OwnV w base t (.slice (some ⟨g, 0, none⟩) n c) n (is l)) {i : Nat} (hi : i < n) : ∃ x, w.cell? ⟨g, i, none⟩ = some (.int .i64 x) := by
  obtain ⟨b, o, x, hA, hx, hc⟩ := RdI.at_ (OwnV.same h) hi
  injection hA with hA
  injection hA with e1 e2
  subst e1; subst e2
  rw [Nat.zero_add] at hc
  exact ⟨x, hc⟩
theorem set_mid (acc : List Int) (x : Int) (m j : Nat) (h : acc.length = j) (hj : j < m) : (acc ++ List.replicate (m - j) 0).set j x = (acc ++ [x]) ++ List.replicate (m - (j + 1)) 0 := by
  rw [List.set_append_right _ _ (by omega), h, Nat.sub_self, show m - j = (m - (j + 1)) + 1 from by omega, List.replicate_succ, List.set_cons_zero, List.append_assoc]
  rfl

set_option maxHeartbeats 1000000 in
theorem takeRow_in (A : Option Addr) (n c : Nat) (l : List UInt8) (m k : Nat) (w : World) (hw : Wd w) (h : Rd w A n c l) (hn : n ≤ 65536) (hk : Num.IsW k) (hm : m ≤ n / k) :
    Calls Tryd.prog 36 #[.slice A n c, .int .i64 (m : Int), .int .i64 (k : Int)] w (RowIs w (Num.rowOf l m k)) := by
  have hk8 := hk.pos
  have hmo := (Num.most_lt hk).1
  have hmn : m ≤ 65536 := Nat.le_trans hm (Nat.le_trans (Nat.div_le_self n k) hn)
  have q1 : decide ((m : Int) < 0) = false := by simp
  have hq := quot n k hn
  generalize n / k = q at hq hm
  have q2 : decide (q < m) = false := by simpa using hm
  have q3 : decide ((q : Int) < (m : Int)) = false := by simpa using hm
  go_enter Tryd.func36, Tryd.ntmps36
  go_wp2_with fail
  with_reducible refine (bound_yes k _ hw hk).mono ?_
  rintro e w1 ⟨rfl, hb1⟩
  go_wp2_with (
    at_make
    refine wpList_mkV rfl (.tmp 32) (.tmp 32) 22 rfl 3 (.int .i64 0) 8 info3 rfl (by omega) Tryd.underlying22 _ _ _ m rfl rfl rfl (by omega) ?_
    intro w2 hown2 hb2)
  clear hq q2 q3
  have hb12 := bthen hb1 hb2
  have hg : w.heap.size ≤ w1.heap.size := hb1.size
  generalize hgg : w1.heap.size = g at hown2 hg
  clear hgg
  go_loopw [0, 36] (fun v i w' => ∃ (j : Nat) (A' : Option Addr) (n' c' : Nat) (acc : List Int) (r : List UInt8), j ≤ m ∧ i = .int .i64 j ∧ v = .slice A' n' c' ∧ n' ≤ 65536 ∧ Rd w A' n' c' r ∧ Num.Tk k m l j acc r ∧
      OwnV w' w.heap.size 3 (.slice (some ⟨g, 0, none⟩) m m) m (is (acc ++ List.replicate (m - j) 0)) ∧ Below w.heap.size w w') (fun _ i _ => m - (intOf i).toNat)
  case atStart =>
    refine ⟨0, A, n, c, [], l, Nat.zero_le _, rfl, rfl, hn, h, Num.Tk.zero _ _ _, ?_, hb12⟩
    have := hown2.mono hg
    simpa [is] using this
  case round =>
    obtain ⟨j, A', n', c', acc, r, hj, rfl, rfl, hn', hr0, hT, hown, hb⟩ := hrel
    have hr := hr0.below hb
    have HT := hidT hT
    have HL := hidT hr.1
    clear hT
    by_cases hjm : j < m
    · by_cases hc0 : Num.code r k = 0
      · have hkn : k ≤ n' := by
          rcases Num.code_cases r k with ⟨hx, _⟩ | ⟨hx, _⟩ | ⟨_, _, h3, _⟩
          · omega
          · omega
          · have := hr.1; rw [Int.toNat_natCast] at h3; omega
        have hcap := hr.2.1
        obtain ⟨b, o, rfl, _⟩ := hr.at_ (by omega)
        have hf := first_any _ n' c' r k _ (hw.below hb) hr
        have hTs := HT.out.succ hjm hc0
        have hrest : Num.rest r k = r.drop k := by unfold Num.rest; rw [if_pos hc0, Int.toNat_natCast]
        have hnum := Num.num_le r k
        have HAL := hidT HT.out.1
        rw [hrest] at hTs
        rw [hc0] at hf
        generalize Num.num r k = x at hf hTs hnum
        have HTS := hidT hTs
        clear hTs hrest hc0
        have t1 : (0 : Int) ≤ (k : Int) := by omega
        have t2 : (k : Int) ≤ (n' : Int) := by omega
        go_wp2_with fail
        with_reducible refine hf.mono ?_
        rintro e w3 ⟨rfl, hb3⟩
        have ho3 := OwnV.later hown hb3
        obtain ⟨y, hcy⟩ := RdI.of_own ho3 hjm
        have hfy := World.ownsRow.frozenAt ho3 j
        have hst := (World.ownsRow.stored ho3 j (.int .i64 (x : Int))).1
        rw [← is_set, set_mid _ _ _ _ HAL.out hjm] at hst
        have hbs : Below w.heap.size w (w3.setCell ⟨g, j, none⟩ (.int .i64 (x : Int))) := (bthen hb hb3).setCell (p := ⟨g, j, none⟩) hg _
        by_cases hck : c' = k
        · obtain rfl : n' = k := by omega
          subst hck
          have hre : r.drop c' = [] := List.drop_eq_nil_of_le (by rw [HL.out]; omega)
          rw [hre] at HTS
          clear hre
          go_wp2
          go_roundw
          case rel => exact ⟨j + 1, _, 0, 0, acc ++ [(x : Int)], [], by omega, by go_num, rfl, by omega, Rd.empty _ _, HTS.out, hst, hbs⟩
          case measure => simp [intOf]; omega
        · have hd := hr0.drop (k := k) hkn
          go_wp2
          go_roundw
          case rel => exact ⟨j + 1, _, n' - k, c' - k, acc ++ [(x : Int)], r.drop k, by omega, by go_num, rfl, by omega, hd, HTS.out, hst, hbs⟩
          case measure => simp [intOf]; omega
      · have HR : Hid (Num.rowOf l m k = ([], [], 2)) := Num.rowOf_none (by omega) (HT.out.bad hjm hc0)
        have h2 := Num.code_width (l := r) (k := (k : Int)) (by omega) hc0
        have hf := first_any A' n' c' r k _ (hw.below hb) hr
        rw [h2, (Num.code_bad hc0).1] at hf
        clear h2 hc0
        go_wp2_with fail
        with_reducible refine hf.mono ?_
        rintro e w3 ⟨rfl, hb3⟩
        go_wp2
        exact bodyPost_ret (v := .tuple #[.slice none 0 0, .slice none 0 0, .int .i64 2]) (by simp [results, Tryd.results36, go_sem]) rfl (RowIs.none_ HR.out (bthen hb hb3))
    · obtain rfl : j = m := by omega
      have HR : Hid (Num.rowOf l j k = (acc, r, 0)) := Num.rowOf_some (by omega) HT.out.done
      have hal := HT.out.1
      have HAL := hidT hal
      clear hal
      go_wp2_with fail
      with_reducible refine (clone_any _ _ _ r _ hr (by omega)).mono ?_
      rintro e w3 ⟨A3, c3, rfl, ho3, hb3⟩
      go_wp2
      refine bodyPost_ret (v := .tuple #[.slice (some ⟨g, 0, none⟩) j j, .slice A3 r.length c3, .int .i64 0]) (by simp [results, Tryd.results36, go_sem]) rfl ?_
      rw [HR.out]
      have hx : OwnV w3 w.heap.size 3 (.slice (some ⟨g, 0, none⟩) j j) j (is acc) := by
        have := OwnV.later hown hb3
        simpa using this
      refine ⟨some ⟨g, 0, none⟩, j, A3, c3, ?_, ?_, ho3.mono hb.size, bthen hb hb3⟩
      · simp only [HAL.out]
      · simp only [HAL.out]; exact hx

theorem takeRow_any (A : Option Addr) (n c : Nat) (l : List UInt8) (many k : Int) (w : World) (hw : Wd w) (h : Rd w A n c l) (hn : n ≤ 65536) :
    Calls Tryd.prog 36 #[.slice A n c, .int .i64 many, .int .i64 k] w (RowIs w (Num.rowOf l many k)) := by
  by_cases ha : Num.most k < 0 ∨ many < 0
  · exact takeRow_arg A n c l many k w hw ha
  · obtain ⟨j, rfl, hj⟩ := Num.isW_of (k := k) (by omega)
    obtain ⟨m, rfl⟩ := Int.eq_ofNat_of_zero_le (a := many) (by omega)
    by_cases hm : n / j < m
    · exact takeRow_few A n c l m j w hw h hn hj hm
    · exact takeRow_in A n c l m j w hw h hn hj (by omega)
end Go.Proofs.YtpahkkblkdkefaaDoor
