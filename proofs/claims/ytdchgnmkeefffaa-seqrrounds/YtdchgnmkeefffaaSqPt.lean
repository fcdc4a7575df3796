/- The pieces of a walk in parts. -/
import Derived.Test.YtdchgnmkeefffaaSqW
import Derived.Test.YtdchgnmkeefffaaSqPartN
import Derived.Test.YtdchgnmkeefffaaSqRA
set_option maxRecDepth 100000
namespace Go.Proofs.Ytdchgnmkeefffaa
open Go.RowKit
set_option linter.unusedVariables false

theorem zip_take' {α β : Type} (a : List α) (b : List β) (k : Nat) : (a.zip b).take k = (a.take k).zip (b.take k) := by
  induction k generalizing a b with
  | zero => rfl
  | succ k ih => cases a <;> cases b <;> simp [ih]
theorem zip_drop' {α β : Type} (a : List α) (b : List β) (k : Nat) : (a.zip b).drop k = (a.drop k).zip (b.drop k) := by
  induction k generalizing a b with
  | zero => rfl
  | succ k ih => cases a <;> cases b <;> simp [ih]
theorem may_few {x : Item.It} (h : Item.may x = true) : x.l.length ≤ 64 ∧ x.b.length ≤ 1024 := by
  unfold Item.may at h
  rw [Bool.and_eq_true, Bool.and_eq_true] at h
  obtain ⟨_, _, h⟩ := h
  unfold Item.ask at h
  repeat' split at h
  · unfold Item.ask1 Item.list Item.body at h
    simp only [Bool.and_eq_true, Item.win_iff, decide_eq_true_eq] at h
    omega
  all_goals first
    | (unfold Item.askN Item.list Item.body at h
       simp only [Bool.and_eq_true, Item.win_iff, decide_eq_true_eq] at h
       omega)
    | cases h
/-- What a walk tells, its turn as a letter. -/
def WalkQ (w : World) (n : Nat) (q : Array Value) (ls : List Lane.Ln) (d : List Seqr.Dv) (e : Ending) (w' : World) : Prop :=
  ∃ A c D m k, e = .returned (.tuple #[.agg q, .slice A n c, .slice D m k]) ∧ RdL (Hi w.heap.size) w' A n c ls ∧ RdD (Hi w.heap.size) w' D m k d ∧ Below w.heap.size w w'
theorem walkQ_any {S : Nat → Prop} (t : Seqr.Tn) (A : Option Addr) (n c : Nat) (ls : List Lane.Ln) (w : World) (h : RdL S w A n c ls) (hok : Seqr.Ok t ls) (hsm : SmallLs ls) (hn : n ≤ 64) (hu0 : 0 ≤ t.used) (hu1 : t.used ≤ 2305843009213693952) (hmu : Seqr.mu ls ≤ 1000000)
    {u : Seqr.Tn} {ms : List Lane.Ln} {d : List Seqr.Dv} (hr : Seqr.walk t ls = (u, ms, d)) (hl : ms.length = n) (q : Array Value) (hq : tc u = q) : Calls Try.prog 11 #[.agg #[.int .i64 (t.who : Int), .int .i64 t.used], .slice A n c] w (WalkQ w n q ms d) := by
  have hc := sqWalkOut_any t A n c ls w h hok hsm hn hu0 hu1 hmu
  rw [hr] at hc
  refine hc.mono ?_
  rintro e w' ⟨A', n', c', D, m, k, rfl, h1, h2, h3⟩
  obtain rfl : n' = n := by rw [← h1.size]; exact hl
  exact ⟨A', c', D, m, k, by rw [← hq], h1, h2, h3⟩
theorem tc_two (u : Seqr.Tn) (q : Array Value) (hq : tc u = q) : q.size = 2 ∧ q.all (·.oneCell') = true := by subst hq; exact ⟨rfl, by simp [tc, Value.oneCell']⟩
/-- A part of a walk, in slots. -/
def PartIs (X : World) (n : Nat) (q : Array Value) (ls : List Lane.Ln) (d : List Seqr.Dv) (x y z : Value) (wc : World) : Prop :=
  ∃ p A c D m k, x = .pointer (some ⟨p, 0, none⟩) ∧ y = .slice A n c ∧ z = .slice D m k ∧ wc.heap[p]? = some (.cells q 23 (0, 0)) ∧ RdL (fun _ => True) wc A n c ls ∧ RdD (fun _ => True) wc D m k d ∧ Below X.heap.size X wc
section
variable {X w5 : World} {n : Nat} {q : Array Value} {ls : List Lane.Ln} {d : List Seqr.Dv} {A D : Option Addr} {c m k base g : Nat}
theorem fin_a (hs : q.size = 2) (ha : q.all (·.oneCell') = true) (hb : Below X.heap.size X w5) (hl : RdL (Hi base) w5 A n c ls) (hd : RdD (Hi base) w5 D m k d) :
    ∃ wx, (storeCells ⟨w5.heap.size, 0, none⟩ q.toList).run Try.prog (w5.alloc (.cells #[.int .i64 0, .int .i64 0] 23)) = .ok () wx ∧ Hid (wx.heap[w5.heap.size]? = some (.cells q 23 (0, 0))) ∧ Hid (RdL (fun _ => True) wx A n c ls) ∧ Hid (RdD (fun _ => True) wx D m k d) ∧ Below X.heap.size X wx := by
  obtain ⟨wx, h1, h2, h3, h4⟩ := st8 (alloc_at w5 (.cells #[.int .i64 0, .int .i64 0] 23) _ rfl) q (by rw [hs]; rfl) ha
  have hbx : Below w5.heap.size w5 wx := h4.out _ _ (nkeep _ _) (Nat.le_refl _)
  exact ⟨wx, h1, h2, hidT ((hl.below hbx).mono fun _ _ => trivial), hidT ((hd.below hbx).mono fun _ _ => trivial), bthen hb hbx⟩
theorem fin_b (hs : q.size = 2) (ha : q.all (·.oneCell') = true) (hb : Below X.heap.size X w5) (hg : w5.heap[g]? = some (.cells #[.int .i64 0, .int .i64 0] 23 (0, 0))) (hXg : X.heap.size ≤ g) (hgb : g < base) (hl : RdL (Hi base) w5 A n c ls) (hd : RdD (Hi base) w5 D m k d) :
    ∃ wx, (storeCells ⟨g, 0, none⟩ q.toList).run Try.prog w5 = .ok () wx ∧ Hid (wx.heap[g]? = some (.cells q 23 (0, 0))) ∧ Hid (RdL (fun _ => True) wx A n c ls) ∧ Hid (RdD (fun _ => True) wx D m k d) ∧ Below X.heap.size X wx := by
  obtain ⟨wx, h1, h2, h3, h4⟩ := st8 hg q (by rw [hs]; rfl) ha
  have hk : KeptS (Hi base) w5 wx := KeptS.but h3.out fun b hb => by
    have hb : base ≤ b := hb
    omega
  exact ⟨wx, h1, h2, hidT ((hl.keptS hk).mono fun _ _ => trivial), hidT ((hd.keptS hk).mono fun _ _ => trivial), h4.out _ _ hb hXg⟩
end
end Go.Proofs.Ytdchgnmkeefffaa
