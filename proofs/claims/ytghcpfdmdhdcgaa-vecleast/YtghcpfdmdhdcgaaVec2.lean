/- What vec's joined, Max and Min come to; rows of rows of counts in memory; Least. -/
import Derived.Test.YtghcpfdmdhdcgaaVec1
set_option maxRecDepth 100000
namespace Go.Proofs.Ytghcpfdmdhdcgaa
open Go.RowKit
set_option linter.unusedVariables false

theorem info3 : (Try.prog.info? 3).map (fun i => (i.zero, i.size, i.bytes)) = some (some (.int .i64 0), 1, 8) := by kernel_rfl
theorem infoR : (Try.prog.info? 22).map (fun i => (i.zero, i.size, i.bytes)) = some (some (.slice none 0 0), 1, 24) := by kernel_rfl

theorem OwnV.givesI {w w' : World} {t : TypeId} {v : Value} {n : Nat} {l : List Int} (h : OwnV w' w.heap.size t v n (is l)) (hb : Below w.heap.size w w') : GivesI w t l (.returned v) w' := by
  have hl := OwnV.size h
  rw [is_length] at hl
  subst hl
  obtain ⟨A, c, rfl, _⟩ := OwnV.rd h
  exact ⟨A, c, rfl, h, hb⟩
theorem OwnV.frozen {w : World} {base n g cap : Nat} {e : TypeId} {l : List Value} (h : OwnV w base e (.slice (some ⟨g, 0, none⟩) n cap) n l) (i : Nat) :
    w.frozen? ⟨g, i, none⟩ = false := World.ownsRow.frozenAt h i
theorem OwnV.cell {w : World} {base n g cap : Nat} {e : TypeId} {l : List Value} (h : OwnV w base e (.slice (some ⟨g, 0, none⟩) n cap) n l) {i : Nat} {x : Value} (hx : l[i]? = some x) :
    w.cell? ⟨g, i, none⟩ = some x := by
  have := World.ownsRow.cells (g := g) h rfl i _ hx
  rw [show (⟨g, 0, none⟩ : Addr).add i = ⟨g, i, none⟩ from by unfold Addr.add; split <;> simp_all] at this
  exact this
theorem OwnV.setI {w : World} {base n g cap : Nat} {e : TypeId} {l : List Int} (h : OwnV w base e (.slice (some ⟨g, 0, none⟩) n cap) n (is l)) (i : Nat) (x : Int) :
    OwnV (w.setCell ⟨g, i, none⟩ (.int .i64 x)) base e (.slice (some ⟨g, 0, none⟩) n cap) n (is (l.set i x)) := by
  rw [is_set]
  exact (World.ownsRow.stored h i _).1

set_option maxHeartbeats 1000000 in
theorem joined_any (K : Nat) (hK : K = 22 ∨ K = 25) (f : Int → Int → Int) (hf : ∀ x y w, Calls Try.prog K #[.int .i64 x, .int .i64 y] w (SaysI w (f x y))) (A : Option Addr) (n c : Nat) (a : List Int) (B : Option Addr) (m d : Nat) (b : List Int) (w : World) (h : RdI w A n c a) (h' : RdI w B m d b) (hn : n ≤ 100) (hm : m ≤ 100) :
    Calls Try.prog 21 #[.slice A n c, .slice B m d, .func (.func K) #[] #[]] w (GivesI w 3 (jn f a b)) := by
  have hla := RdI.size h
  have hlb := RdI.size h'
  obtain ⟨N, hN, q⟩ : ∃ N : Nat, max n m = N ∧ (if n < m then (m : Int) else (n : Int)) = (N : Int) := ⟨_, rfl, by split <;> omega⟩
  have hN1 : N ≤ 100 := by omega
  have HJ : Hid (∀ j, j < N → (jn f a b)[j]? = some (f (at0 a j) (at0 b j))) := hidT fun j hj => jn_get f a b (by omega)
  have HL : Hid ((jn f a b).length = N) := hidT (by rw [jn_length]; omega)
  generalize jn f a b = L at HJ HL ⊢
  clear hla hlb hN
  go_enter Try.func21, Try.ntmps21
  go_wp2_with (refine wpList_mkV rfl (.tmp 13) (.tmp 13) 22 rfl 3 (.int .i64 0) 8 info3 rfl (by omega) Try.underlying22 _ _ _ N rfl rfl rfl (by omega) ?_)
  intro w1 ho1 hb1
  have ho : OwnV w1 w.heap.size 3 (.slice (some ⟨w.heap.size, 0, none⟩) N N) N (is (L.take 0 ++ List.replicate (N - 0) 0)) := by
    have e : is (L.take 0 ++ List.replicate (N - 0) 0) = List.replicate N (.int .i64 0) := by simp [is]
    rw [e]; exact ho1
  clear ho1
  go_wp2
  clear q
  go_loopw [17] (fun i w' => ∃ j : Nat, j ≤ N ∧ i = .int .i64 j ∧ OwnV w' w.heap.size 3 (.slice (some ⟨w.heap.size, 0, none⟩) N N) N (is (L.take j ++ List.replicate (N - j) 0)) ∧ Below w.heap.size w w') (fun i _ => N - (intOf i).toNat)
  case atStart => exact ⟨0, Nat.zero_le _, rfl, ho, hb1⟩
  case round =>
    obtain ⟨j, hj, rfl, hown, hbel⟩ := hrel
    by_cases hjn : j < N
    · obtain ⟨x, HX⟩ : ∃ x, Hid (at0 a j = x) := ⟨_, hidT rfl⟩
      obtain ⟨y, HY⟩ : ∃ y, Hid (at0 b j = y) := ⟨_, hidT rfl⟩
      have p1 := fun w' hb => at_nat A n c a j w' (h.below hb)
      have p2 := fun w' hb => at_nat B m d b j w' (h'.below hb)
      rw [HX.out] at p1
      rw [HY.out] at p2
      obtain ⟨z, HZ⟩ : ∃ z, Hid (f x y = z) := ⟨_, hidT rfl⟩
      have p3 := hf x y
      rw [HZ.out] at p3
      have HS : Hid ((L.take j ++ List.replicate (N - j) 0).set j z = L.take (j + 1) ++ List.replicate (N - (j + 1)) 0) := hidT (fill_set HL.out (by rw [HJ.out j hjn, HX.out, HY.out, HZ.out]))
      obtain ⟨u, hu⟩ : ∃ u, (is (L.take j ++ List.replicate (N - j) 0))[j]? = some u := ⟨_, List.getElem?_eq_getElem (by have := OwnV.size hown; omega)⟩
      have hcx := OwnV.cell hown hu
      have hfx := OwnV.frozen hown j
      have t1 : (0 : Int) ≤ (j : Int) := by omega
      have t2 : (j : Int) < (N : Int) := by omega
      clear hu
      go_wp2_with fail
      with_reducible refine (p1 _ hbel).mono ?_
      rintro e w2 ⟨rfl, rfl⟩
      go_wp2_with fail
      with_reducible refine (p2 _ hbel).mono ?_
      rintro e w2 ⟨rfl, rfl⟩
      rcases hK with rfl | rfl
      all_goals
        go_wp2_with fail
        with_reducible refine (p3 _).mono ?_
        rintro e w2 ⟨rfl, rfl⟩
        go_wp2
        refine ⟨⟨j + 1, by omega, by go_num, ?_, ?_⟩, by simp [intOf]; omega⟩
        · rw [← HS.out]
          exact OwnV.setI hown j z
        · exact hbel.setCell (p := ⟨w.heap.size, j, none⟩) (Nat.le_refl _) _
    · obtain rfl : j = N := by omega
      have e : L.take j ++ List.replicate (j - j) 0 = L := by rw [Nat.sub_self, List.take_of_length_le (by rw [HL.out]; omega)]; simp
      rw [e] at hown
      clear e
      go_wp2
      go_ret
      exact OwnV.givesI hown hbel

theorem max_any (A : Option Addr) (n c : Nat) (a : List Int) (B : Option Addr) (m d : Nat) (b : List Int) (w : World) (h : RdI w A n c a) (h' : RdI w B m d b) (hn : n ≤ 100) (hm : m ≤ 100) :
    Calls Try.prog 11 #[.slice A n c, .slice B m d] w (GivesI w 3 (mx a b)) := by
  go_enter Try.func11, Try.ntmps11
  go_wp2_with fail
  with_reducible refine (joined_any _ (.inl rfl) big max1_any A n c a B m d b w h h' hn hm).mono ?_
  rintro e w1 ⟨A1, c1, rfl, ho, hb⟩
  go_wp2
  go_ret
  exact ⟨A1, c1, rfl, ho, hb⟩
theorem min_any (A : Option Addr) (n c : Nat) (a : List Int) (B : Option Addr) (m d : Nat) (b : List Int) (w : World) (h : RdI w A n c a) (h' : RdI w B m d b) (hn : n ≤ 100) (hm : m ≤ 100) :
    Calls Try.prog 13 #[.slice A n c, .slice B m d] w (GivesI w 3 (mn a b)) := by
  go_enter Try.func13, Try.ntmps13
  go_wp2_with fail
  with_reducible refine (joined_any _ (.inr rfl) les min1_any A n c a B m d b w h h' hn hm).mono ?_
  rintro e w1 ⟨A1, c1, rfl, ho, hb⟩
  go_wp2
  go_ret
  exact ⟨A1, c1, rfl, ho, hb⟩
end Go.Proofs.Ytghcpfdmdhdcgaa
