/- Rows of lanes, and of what is delivered, in memory; the words of the contracts of a walk. -/
import Derived.Test.YtdchgnmkeefffaaLBX
import Derived.Test.YtdchgnmkeefffaaLCX
import Derived.Test.YtdchgnmkeefffaaSqMath
set_option maxRecDepth 100000
namespace Go.Proofs.Ytdchgnmkeefffaa
open Go.RowKit
set_option linter.unusedVariables false

/-- Structs that are lanes. -/
def AreL (S : Nat → Prop) (w : World) (rs : List (Array Value)) (xs : List Lane.Ln) : Prop := rs.length = xs.length ∧ ∀ (i : Nat) (r : Array Value) (x : Lane.Ln), rs[i]? = some r → xs[i]? = some x → IsLane S w (.agg r) x
section
variable {S T : Nat → Prop} {w w' : World} {rs ss : List (Array Value)} {xs ys : List Lane.Ln}
theorem AreL.keptS (h : AreL S w rs xs) (hk : KeptS S w w') : AreL S w' rs xs := ⟨h.1, fun i r x h1 h2 => (h.2 i r x h1 h2).keptS hk⟩
theorem AreL.below (h : AreL S w rs xs) (hb : Below w.heap.size w w') : AreL S w' rs xs := h.keptS (KeptS.below S hb)
theorem AreL.mono (h : AreL S w rs xs) (hs : ∀ b, S b → T b) : AreL T w rs xs := ⟨h.1, fun i r x h1 h2 => (h.2 i r x h1 h2).mono hs⟩
theorem AreL.nil_ (S : Nat → Prop) (w : World) : AreL S w [] [] := ⟨rfl, fun i t x h => by simp at h⟩
theorem AreL.take (h : AreL S w rs xs) (k : Nat) : AreL S w (rs.take k) (xs.take k) := by
  refine ⟨by simp [h.1], fun i t x h1 h2 => ?_⟩
  rw [List.getElem?_take] at h1 h2
  split at h1
  · rename_i hi
    rw [if_pos hi] at h2
    exact h.2 i t x h1 h2
  · cases h1
theorem AreL.drop (h : AreL S w rs xs) (k : Nat) : AreL S w (rs.drop k) (xs.drop k) := by
  refine ⟨by simp [h.1], fun i t x h1 h2 => ?_⟩
  rw [List.getElem?_drop] at h1 h2
  exact h.2 _ t x h1 h2
theorem AreL.app (h : AreL S w rs xs) (h2 : AreL S w ss ys) : AreL S w (rs ++ ss) (xs ++ ys) := by
  refine ⟨by simp [h.1, h2.1], fun i t x h3 h4 => ?_⟩
  by_cases hi : i < rs.length
  · rw [List.getElem?_append_left hi] at h3
    rw [List.getElem?_append_left (by rw [← h.1]; exact hi)] at h4
    exact h.2 i t x h3 h4
  · rw [List.getElem?_append_right (by omega)] at h3
    rw [List.getElem?_append_right (by rw [← h.1]; omega), ← h.1] at h4
    exact h2.2 _ t x h3 h4
theorem AreL.one {r : Array Value} {x : Lane.Ln} (h : IsLane S w (.agg r) x) : AreL S w [r] [x] := by
  refine ⟨rfl, fun i t' x' h1 h2 => ?_⟩
  cases i with
  | zero =>
    simp only [List.getElem?_cons_zero, Option.some.injEq] at h1 h2
    subst h1; subst h2
    exact h
  | succ i => simp at h1
end
/-- A slice of lanes. -/
def RdL (S : Nat → Prop) (w : World) (A : Option Addr) (n c : Nat) (xs : List Lane.Ln) : Prop := ∃ rs, RdK 5 w A n c rs ∧ AreL S w rs xs ∧ Within S A n
section
variable {S T : Nat → Prop} {w w' : World} {A : Option Addr} {n c : Nat} {xs : List Lane.Ln}
theorem RdL.keptS (h : RdL S w A n c xs) (hk : KeptS S w w') : RdL S w' A n c xs := by
  obtain ⟨rs, h1, h2, h3⟩ := h
  exact ⟨rs, h1.keptS h3 hk, h2.keptS hk, h3⟩
theorem RdL.below (h : RdL S w A n c xs) (hb : Below w.heap.size w w') : RdL S w' A n c xs := h.keptS (KeptS.below S hb)
theorem RdL.mono (h : RdL S w A n c xs) (hs : ∀ b, S b → T b) : RdL T w A n c xs := by
  obtain ⟨rs, h1, h2, h3⟩ := h
  exact ⟨rs, h1, h2.mono hs, h3.mono hs⟩
theorem RdL.size (h : RdL S w A n c xs) : xs.length = n := by
  obtain ⟨rs, h1, h2, _⟩ := h
  rw [← h2.1]; exact h1.size
theorem RdL.cap (h : RdL S w A n c xs) : n ≤ c := by
  obtain ⟨rs, h1, _⟩ := h
  exact h1.cap
theorem RdL.cmax (h : RdL S w A n c xs) : c ≤ 9223372036854775807 := by
  obtain ⟨rs, h1, _⟩ := h
  exact h1.cmax
theorem RdL.le (h : RdL S w A n c xs) : n ≤ 9223372036854775807 := by have := h.cap; have := h.cmax; omega
theorem RdL.nil_ (S : Nat → Prop) (w : World) : RdL S w none 0 0 [] := ⟨[], RdK.nil_ 5 w, AreL.nil_ S w, Within.zero _ _⟩
theorem RdL.empty (S : Nat → Prop) (w : World) (A : Option Addr) : RdL S w A 0 0 [] := ⟨[], RdK.empty 5 w A, AreL.nil_ S w, Within.zero _ _⟩
theorem RdL.nilA (h : RdL S w none n c xs) : n = 0 ∧ c = 0 ∧ xs = [] := by
  have hs := h.size
  obtain ⟨rs, h1, h2, _⟩ := h
  obtain ⟨rfl, rfl, rfl⟩ := h1.nilA
  exact ⟨rfl, rfl, List.eq_nil_of_length_eq_zero hs⟩
theorem RdL.addr (h : RdL S w A n c xs) (h0 : 0 < n) : ∃ b o, A = some ⟨b, o, none⟩ := by
  obtain ⟨rs, h1, _⟩ := h
  exact h1.addr h0
theorem RdL.take (h : RdL S w A n c xs) {k : Nat} (hk : k ≤ n) : RdL S w A k c (xs.take k) := by
  obtain ⟨rs, h1, h2, h3⟩ := h
  exact ⟨_, h1.take hk, h2.take k, h3.less hk⟩
theorem RdL.takeC (h : RdL S w A n c xs) {k d : Nat} (hk : k ≤ n) (hd : k ≤ d) (hdc : d ≤ c) : RdL S w A k d (xs.take k) := by
  obtain ⟨rs, h1, h2, h3⟩ := h
  exact ⟨_, h1.takeC hk hd hdc, h2.take k, h3.less hk⟩
theorem RdL.drop {b o : Nat} (h : RdL S w (some ⟨b, o, none⟩) n c xs) {k : Nat} (hk : k ≤ n) : RdL S w (some ⟨b, o + k * 5, none⟩) (n - k) (c - k) (xs.drop k) := by
  obtain ⟨rs, h1, h2, h3⟩ := h
  refine ⟨_, h1.drop hk, h2.drop k, fun h0 b' o' hA => ?_⟩
  injection hA with hA
  injection hA with e1 e2
  subst e1
  exact h3 (by omega) b o rfl
/-- One of its lanes: its cells are letters. -/
theorem RdL.at_ (h : RdL S w A n c xs) {i : Nat} (hi : i < n) :
    ∃ b o r x, A = some ⟨b, o, none⟩ ∧ xs[i]? = some x ∧ r.size = 5 ∧ r.all (·.oneCell') = true ∧ IsLane S w (.agg r) x ∧ ∀ j u, r[j]? = some u → w.cell? ⟨b, o + i * 5 + j, none⟩ = some u := by
  have hs := h.size
  obtain ⟨rs, h1, h2, _⟩ := h
  obtain ⟨b, o, r, hA, hr, hsz, hc⟩ := h1.at_ hi
  have hx := List.getElem?_eq_getElem (show i < xs.length by omega)
  exact ⟨b, o, r, _, hA, hx, hsz, (h1.all.at_ hr).2, h2.2 i r _ hr hx, hc⟩
end

/-- What is delivered, as a value. -/
def IsDv (S : Nat → Prop) (w : World) (v : Value) (x : Seqr.Dv) : Prop := ∃ BA bn bc, v = .agg #[.int .i64 x.src, .slice BA bn bc] ∧ Rd w BA bn bc x.b ∧ Within S BA bn
section
variable {S T : Nat → Prop} {w w' : World} {v : Value} {x : Seqr.Dv}
theorem IsDv.keptS (h : IsDv S w v x) (hk : KeptS S w w') : IsDv S w' v x := by
  obtain ⟨BA, bn, bc, rfl, h1, h2⟩ := h
  exact ⟨BA, bn, bc, rfl, h1.keptS h2 hk, h2⟩
theorem IsDv.below (h : IsDv S w v x) (hb : Below w.heap.size w w') : IsDv S w' v x := h.keptS (KeptS.below S hb)
theorem IsDv.mono (h : IsDv S w v x) (hs : ∀ b, S b → T b) : IsDv T w v x := by
  obtain ⟨BA, bn, bc, rfl, h1, h2⟩ := h
  exact ⟨BA, bn, bc, rfl, h1, h2.mono hs⟩
theorem IsDv.cells (h : IsDv S w v x) : ∃ r : Array Value, v = .agg r ∧ r.size = 2 ∧ r.all (·.oneCell') = true := by
  obtain ⟨BA, bn, bc, rfl, h1, h2⟩ := h
  exact ⟨_, rfl, rfl, by simp [Value.oneCell']⟩
end
/-- Structs that are what is delivered. -/
def AreD (S : Nat → Prop) (w : World) (rs : List (Array Value)) (xs : List Seqr.Dv) : Prop := rs.length = xs.length ∧ ∀ (i : Nat) (r : Array Value) (x : Seqr.Dv), rs[i]? = some r → xs[i]? = some x → IsDv S w (.agg r) x
section
variable {S T : Nat → Prop} {w w' : World} {rs ss : List (Array Value)} {xs ys : List Seqr.Dv}
theorem AreD.keptS (h : AreD S w rs xs) (hk : KeptS S w w') : AreD S w' rs xs := ⟨h.1, fun i r x h1 h2 => (h.2 i r x h1 h2).keptS hk⟩
theorem AreD.below (h : AreD S w rs xs) (hb : Below w.heap.size w w') : AreD S w' rs xs := h.keptS (KeptS.below S hb)
theorem AreD.mono (h : AreD S w rs xs) (hs : ∀ b, S b → T b) : AreD T w rs xs := ⟨h.1, fun i r x h1 h2 => (h.2 i r x h1 h2).mono hs⟩
theorem AreD.nil_ (S : Nat → Prop) (w : World) : AreD S w [] [] := ⟨rfl, fun i t x h => by simp at h⟩
theorem AreD.take (h : AreD S w rs xs) (k : Nat) : AreD S w (rs.take k) (xs.take k) := by
  refine ⟨by simp [h.1], fun i t x h1 h2 => ?_⟩
  rw [List.getElem?_take] at h1 h2
  split at h1
  · rename_i hi
    rw [if_pos hi] at h2
    exact h.2 i t x h1 h2
  · cases h1
theorem AreD.drop (h : AreD S w rs xs) (k : Nat) : AreD S w (rs.drop k) (xs.drop k) := by
  refine ⟨by simp [h.1], fun i t x h1 h2 => ?_⟩
  rw [List.getElem?_drop] at h1 h2
  exact h.2 _ t x h1 h2
theorem AreD.app (h : AreD S w rs xs) (h2 : AreD S w ss ys) : AreD S w (rs ++ ss) (xs ++ ys) := by
  refine ⟨by simp [h.1, h2.1], fun i t x h3 h4 => ?_⟩
  by_cases hi : i < rs.length
  · rw [List.getElem?_append_left hi] at h3
    rw [List.getElem?_append_left (by rw [← h.1]; exact hi)] at h4
    exact h.2 i t x h3 h4
  · rw [List.getElem?_append_right (by omega)] at h3
    rw [List.getElem?_append_right (by rw [← h.1]; omega), ← h.1] at h4
    exact h2.2 _ t x h3 h4
theorem AreD.one {r : Array Value} {x : Seqr.Dv} (h : IsDv S w (.agg r) x) : AreD S w [r] [x] := by
  refine ⟨rfl, fun i t' x' h1 h2 => ?_⟩
  cases i with
  | zero =>
    simp only [List.getElem?_cons_zero, Option.some.injEq] at h1 h2
    subst h1; subst h2
    exact h
  | succ i => simp at h1
end
/-- A slice of what is delivered. -/
def RdD (S : Nat → Prop) (w : World) (A : Option Addr) (n c : Nat) (xs : List Seqr.Dv) : Prop := ∃ rs, RdK 2 w A n c rs ∧ AreD S w rs xs ∧ Within S A n
section
variable {S T : Nat → Prop} {w w' : World} {A : Option Addr} {n c : Nat} {xs : List Seqr.Dv}
theorem RdD.keptS (h : RdD S w A n c xs) (hk : KeptS S w w') : RdD S w' A n c xs := by
  obtain ⟨rs, h1, h2, h3⟩ := h
  exact ⟨rs, h1.keptS h3 hk, h2.keptS hk, h3⟩
theorem RdD.below (h : RdD S w A n c xs) (hb : Below w.heap.size w w') : RdD S w' A n c xs := h.keptS (KeptS.below S hb)
theorem RdD.mono (h : RdD S w A n c xs) (hs : ∀ b, S b → T b) : RdD T w A n c xs := by
  obtain ⟨rs, h1, h2, h3⟩ := h
  exact ⟨rs, h1, h2.mono hs, h3.mono hs⟩
theorem RdD.size (h : RdD S w A n c xs) : xs.length = n := by
  obtain ⟨rs, h1, h2, _⟩ := h
  rw [← h2.1]; exact h1.size
theorem RdD.cap (h : RdD S w A n c xs) : n ≤ c := by
  obtain ⟨rs, h1, _⟩ := h
  exact h1.cap
theorem RdD.cmax (h : RdD S w A n c xs) : c ≤ 9223372036854775807 := by
  obtain ⟨rs, h1, _⟩ := h
  exact h1.cmax
theorem RdD.le (h : RdD S w A n c xs) : n ≤ 9223372036854775807 := by have := h.cap; have := h.cmax; omega
theorem RdD.nil_ (S : Nat → Prop) (w : World) : RdD S w none 0 0 [] := ⟨[], RdK.nil_ 2 w, AreD.nil_ S w, Within.zero _ _⟩
theorem RdD.empty (S : Nat → Prop) (w : World) (A : Option Addr) : RdD S w A 0 0 [] := ⟨[], RdK.empty 2 w A, AreD.nil_ S w, Within.zero _ _⟩
theorem RdD.nilA (h : RdD S w none n c xs) : n = 0 ∧ c = 0 ∧ xs = [] := by
  have hs := h.size
  obtain ⟨rs, h1, h2, _⟩ := h
  obtain ⟨rfl, rfl, rfl⟩ := h1.nilA
  exact ⟨rfl, rfl, List.eq_nil_of_length_eq_zero hs⟩
theorem RdD.addr (h : RdD S w A n c xs) (h0 : 0 < n) : ∃ b o, A = some ⟨b, o, none⟩ := by
  obtain ⟨rs, h1, _⟩ := h
  exact h1.addr h0
theorem RdD.take (h : RdD S w A n c xs) {k : Nat} (hk : k ≤ n) : RdD S w A k c (xs.take k) := by
  obtain ⟨rs, h1, h2, h3⟩ := h
  exact ⟨_, h1.take hk, h2.take k, h3.less hk⟩
theorem RdD.takeC (h : RdD S w A n c xs) {k d : Nat} (hk : k ≤ n) (hd : k ≤ d) (hdc : d ≤ c) : RdD S w A k d (xs.take k) := by
  obtain ⟨rs, h1, h2, h3⟩ := h
  exact ⟨_, h1.takeC hk hd hdc, h2.take k, h3.less hk⟩
theorem RdD.drop {b o : Nat} (h : RdD S w (some ⟨b, o, none⟩) n c xs) {k : Nat} (hk : k ≤ n) : RdD S w (some ⟨b, o + k * 2, none⟩) (n - k) (c - k) (xs.drop k) := by
  obtain ⟨rs, h1, h2, h3⟩ := h
  refine ⟨_, h1.drop hk, h2.drop k, fun h0 b' o' hA => ?_⟩
  injection hA with hA
  injection hA with e1 e2
  subst e1
  exact h3 (by omega) b o rfl
/-- One of its what is delivered: its cells are letters. -/
theorem RdD.at_ (h : RdD S w A n c xs) {i : Nat} (hi : i < n) :
    ∃ b o r x, A = some ⟨b, o, none⟩ ∧ xs[i]? = some x ∧ r.size = 2 ∧ r.all (·.oneCell') = true ∧ IsDv S w (.agg r) x ∧ ∀ j u, r[j]? = some u → w.cell? ⟨b, o + i * 2 + j, none⟩ = some u := by
  have hs := h.size
  obtain ⟨rs, h1, h2, _⟩ := h
  obtain ⟨b, o, r, hA, hr, hsz, hc⟩ := h1.at_ hi
  have hx := List.getElem?_eq_getElem (show i < xs.length by omega)
  exact ⟨b, o, r, _, hA, hx, hsz, (h1.all.at_ hr).2, h2.2 i r _ hr hx, hc⟩
end

/-- One of its lanes, its cells told one by one, in every later world. -/
theorem RdL.told {S : Nat → Prop} {w : World} {A : Option Addr} {n c : Nat} {xs : List Lane.Ln} (h : RdL S w A n c xs) {i : Nat} (hi : i < n) :
    ∃ b o l B m d EA en ec, A = some ⟨b, o, none⟩ ∧ xs[i]? = some l ∧ IsLane S w (.agg #[.slice EA en ec, .int .i64 (Lane.Ln.p l).seq, .int .i64 l.p.total, .int .i64 l.p.got, .slice B m d]) l ∧
      ∀ w', Below w.heap.size w w' → w'.cell? ⟨b, o + i * 5, none⟩ = some (.slice EA en ec) ∧ w'.cell? ⟨b, o + i * 5 + 1, none⟩ = some (.int .i64 l.p.seq) ∧ w'.cell? ⟨b, o + i * 5 + 2, none⟩ = some (.int .i64 l.p.total) ∧
        w'.cell? ⟨b, o + i * 5 + 3, none⟩ = some (.int .i64 l.p.got) ∧ w'.cell? ⟨b, o + i * 5 + 4, none⟩ = some (.slice B m d) := by
  obtain ⟨b, o, r, l, hA, hx, hsz, _, hi2, hc⟩ := h.at_ hi
  obtain ⟨EA, en, ec, B, m, d, hv, h1, h2, h3⟩ := id hi2
  injection hv with hv
  subst hv
  refine ⟨b, o, l, B, m, d, EA, en, ec, hA, hx, hi2, fun w' hb => ?_⟩
  have kk : ∀ j u, (#[Value.slice EA en ec, .int .i64 l.p.seq, .int .i64 l.p.total, .int .i64 l.p.got, .slice B m d] : Array Value)[j]? = some u → w'.cell? ⟨b, o + i * 5 + j, none⟩ = some u := fun j u hu => (hb.cell (World.block_lt_of_cell? w _ (hc j u hu))).trans (hc j u hu)
  exact ⟨kk 0 _ rfl, kk 1 _ rfl, kk 2 _ rfl, kk 3 _ rfl, kk 4 _ rfl⟩
/-- One of what is delivered, likewise. -/
theorem RdD.told {S : Nat → Prop} {w : World} {A : Option Addr} {n c : Nat} {xs : List Seqr.Dv} (h : RdD S w A n c xs) {i : Nat} (hi : i < n) :
    ∃ b o x BA bn bc, A = some ⟨b, o, none⟩ ∧ xs[i]? = some x ∧ Rd w BA bn bc x.b ∧ Within S BA bn ∧
      ∀ w', Below w.heap.size w w' → w'.cell? ⟨b, o + i * 2, none⟩ = some (.int .i64 x.src) ∧ w'.cell? ⟨b, o + i * 2 + 1, none⟩ = some (.slice BA bn bc) := by
  obtain ⟨b, o, r, x, hA, hx, hsz, _, hi2, hc⟩ := h.at_ hi
  obtain ⟨BA, bn, bc, hv, h1, h2⟩ := id hi2
  injection hv with hv
  subst hv
  refine ⟨b, o, x, BA, bn, bc, hA, hx, h1, h2, fun w' hb => ?_⟩
  have kk : ∀ j u, (#[Value.int .i64 x.src, .slice BA bn bc] : Array Value)[j]? = some u → w'.cell? ⟨b, o + i * 2 + j, none⟩ = some u := fun j u hu => (hb.cell (World.block_lt_of_cell? w _ (hc j u hu))).trans (hc j u hu)
  exact ⟨kk 0 _ rfl, kk 1 _ rfl⟩
theorem infoL : (Try.prog.info? 51).map (fun i => (i.zero, i.size, i.bytes)) = some (some (.agg lz), 5, 72) := by kernel_rfl
abbrev dz : Array Value := #[.int .i64 0, .slice none 0 0]
theorem infoDv : (Try.prog.info? 55).map (fun i => (i.zero, i.size, i.bytes)) = some (some (.agg dz), 2, 32) := by kernel_rfl
theorem sizeDv : (Try.prog.info? 55).map (·.size) = some 2 := by kernel_rfl
theorem sizeTn : (Try.prog.info? 23).map (·.size) = some 2 := by kernel_rfl
/-- A turn's cells. -/
abbrev tc (t : Seqr.Tn) : Array Value := #[.int .i64 (t.who : Int), .int .i64 t.used]
def SmallLs (ls : List Lane.Ln) : Prop := ∀ l ∈ ls, SmallL l
theorem SmallL.zero : SmallL Lane.Ln.zero := ⟨Nat.zero_le _, (fun x hx => by cases hx), Nat.zero_le _⟩
theorem SmallLs.at_ {ls : List Lane.Ln} (h : SmallLs ls) (i : Nat) : SmallL (Seqr.laneAt ls i) := by
  by_cases hi : i < ls.length
  · exact h _ (Seqr.laneAt_mem hi)
  · rw [Seqr.laneAt_out hi]; exact SmallL.zero
theorem SmallLs.set {ls : List Lane.Ln} (h : SmallLs ls) (i : Nat) {x : Lane.Ln} (hx : SmallL x) : SmallLs (ls.set i x) := fun l hl => by
  rcases List.mem_or_eq_of_mem_set hl with h1 | rfl
  · exact h l h1
  · exact hx
theorem SmallL.pop {l : Lane.Ln} (h : SmallL l) (q : Int) : SmallL (Lane.pop l q) :=
  ⟨Nat.le_trans (List.length_filter_le _ _) h.1, fun x hx => h.2.1 x (List.mem_filter.1 hx).1, h.2.2⟩
theorem SmallL.put {l : Lane.Ln} (h : SmallL l) {e : Lane.En} (he : SmallE e) : SmallL (Lane.set l e) := by
  unfold Lane.set
  split
  · refine ⟨by simpa using h.1, fun x hx => ?_, h.2.2⟩
    obtain ⟨y, hy, rfl⟩ := List.mem_map.1 hx
    unfold Lane.put
    split
    · exact he
    · exact h.2.1 y hy
  · exact h
theorem SmallE.order {e : Lane.En} (h : SmallE e) {s : Int} {r : List Int} (hl : e.l = s :: r) : SmallE (Seqr.order e r) :=
  ⟨by have := h.1; rw [hl] at this; show r.length ≤ 65536; simp at this; omega, by show ([] : List UInt8).length ≤ 65536; simp⟩
theorem step_small {t t1 : Seqr.Tn} {ls ls1 : List Lane.Ln} {o : Option Seqr.Dv} (h : SmallLs ls) (hs : Seqr.step t ls = some (t1, ls1, o)) : SmallLs ls1 := by
  rcases Seqr.step_cases t ls with h1 | ⟨e, h1, h2⟩ | ⟨e, s, r, h1, h2, h3⟩ | ⟨e, s, r, h1, h2, h3, h4⟩ | ⟨e, s, r, m, h1, h2, h3, h4⟩
  · rw [Seqr.step_none h1] at hs; cases hs
  · rw [Seqr.step_pop h1 h2] at hs
    injection hs with hs; injection hs with e1 e2; injection e2 with e2 e3
    subst e2
    exact h.set _ ((h.at_ _).pop _)
  · rw [Seqr.step_skip h1 h2 h3] at hs
    injection hs with hs; injection hs with e1 e2; injection e2 with e2 e3
    subst e2
    exact h.set _ ((h.at_ _).put (SmallE.order ((h.at_ _).2.1 e (Seqr.control_mem h1).1) h2))
  · rw [Seqr.step_stop h1 h2 h3 h4] at hs; cases hs
  · rw [Seqr.step_tell h1 h2 h3 h4] at hs
    injection hs with hs; injection hs with e1 e2; injection e2 with e2 e3
    subst e2
    have hp := h.set s.toNat ((h.at_ s.toNat).pop m.q)
    exact hp.set _ ((hp.at_ _).put (SmallE.order ((h.at_ _).2.1 e (Seqr.control_mem h1).1) h2))
theorem goes_small {t t1 : Seqr.Tn} {ls ls1 : List Lane.Ln} {d : List Seqr.Dv} (h : Seqr.Goes t ls d t1 ls1) (hs : SmallLs ls) : SmallLs ls1 := by
  induction h with
  | refl => exact hs
  | more h1 _ ih => exact ih (step_small hs h1)
/-- All blocks of before but two stay. -/
def Kept2 (g q : Nat) (w w' : World) : Prop := Below 0 w w' ∧ ∀ b, b < w.heap.size → b ≠ g → b ≠ q → w'.heap[b]? = w.heap[b]?
theorem Kept2.refl (g q : Nat) (w : World) : Kept2 g q w w := ⟨Below.refl _ _, fun _ _ _ _ => rfl⟩
theorem Kept2.trans {g q : Nat} {a b c : World} (h : Kept2 g q a b) (k : Kept2 g q b c) : Kept2 g q a c :=
  ⟨h.1.trans k.1, fun i hi h1 h2 => (k.2 i (Nat.lt_of_lt_of_le hi h.1.size) h1 h2).trans (h.2 i hi h1 h2)⟩
theorem Kept2.of {g q : Nat} {w w' : World} (h : Below w.heap.size w w') : Kept2 g q w w' := ⟨h.mono (Nat.zero_le _), fun i hi _ _ => h.block i hi⟩
theorem Kept2.below {g q base : Nat} {w0 w w' : World} (h : Kept2 g q w w') (hb : Below base w0 w) (hg : base ≤ g) (hq : base ≤ q) (hs : base ≤ w.heap.size) : Below base w0 w' :=
  hb.trans ⟨h.1.os, h.1.tape, h.1.output, h.1.size, fun k hk => h.2 k (by omega) (by omega) (by omega)⟩
/-- A store into one of the two. -/
theorem Kept2.store {g q : Nat} {w w' wx : World} (h : Kept2 g q w w') {p : Nat} (hb : But p w' wx) (hz : ∀ base w0, Below base w0 w' → base ≤ p → Below base w0 wx) (hp : p = g ∨ p = q) : Kept2 g q w wx :=
  ⟨hz 0 _ h.1 (Nat.zero_le _), fun i hi h1 h2 => (hb.2 i (by rcases hp with rfl | rfl <;> assumption)).trans (h.2 i hi h1 h2)⟩
theorem Kept2.block {g q : Nat} {w w' : World} (h : Kept2 g q w w') {p : Nat} {o : Obj} (hp : w.heap[p]? = some o) (h1 : p ≠ g) (h2 : p ≠ q) : w'.heap[p]? = some o := by
  have hlt : p < w.heap.size := by
    rcases Nat.lt_or_ge p w.heap.size with h | h
    · exact h
    · rw [Array.getElem?_eq_none h] at hp; cases hp
  rw [h.2 p hlt h1 h2]; exact hp
theorem KeptS.kept2 {S : Nat → Prop} {g q : Nat} {w w' : World} (h : Kept2 g q w w') (h1 : ¬ S g) (h2 : ¬ S q) : KeptS S w w' := fun b o u hS hu => by
  have hlt := World.block_lt_of_cell? w _ hu
  have e : w'.cell? ⟨b, o, none⟩ = w.cell? ⟨b, o, none⟩ := by simp only [World.cell?, h.2 b hlt (fun e => h1 (e ▸ hS)) (fun e => h2 (e ▸ hS))]
  rw [e]; exact hu
/-- The least number of which something holds. -/
theorem least_ex {R : Nat → Prop} (h : ∃ k, R k) : ∃ k, R k ∧ ∀ j, R j → k ≤ j := by
  obtain ⟨k, hk⟩ := h
  induction k using Nat.strongRecOn with
  | _ k ih =>
    by_cases hj : ∃ j, j < k ∧ R j
    · obtain ⟨j, hlt, hR⟩ := hj
      exact ih j hlt hR
    · exact ⟨k, hk, fun j hR => Nat.le_of_not_lt fun hlt => hj ⟨j, hlt, hR⟩⟩
open Classical in
noncomputable def least (R : Nat → Prop) : Nat := if h : ∃ k, R k then Classical.choose (least_ex h) else 0
theorem least_le {R : Nat → Prop} {k : Nat} (h : R k) : least R ≤ k := by
  unfold least
  rw [dif_pos ⟨k, h⟩]
  exact (Classical.choose_spec (least_ex ⟨k, h⟩)).2 k h
theorem least_is {R : Nat → Prop} (h : ∃ k, R k) : R (least R) := by
  unfold least
  rw [dif_pos h]
  exact (Classical.choose_spec (least_ex h)).1

theorem RdL.lt {S : Nat → Prop} {w : World} {A : Option Addr} {n c : Nat} {xs : List Lane.Ln} (h : RdL S w A n c xs) {i : Nat} {l : Lane.Ln} (hx : xs[i]? = some l) : i < n := by
  have := h.size
  rw [← this]
  exact (List.getElem?_eq_some_iff.1 hx).1
theorem AreL.set {S : Nat → Prop} {w : World} {rs : List (Array Value)} {xs : List Lane.Ln} (h : AreL S w rs xs) (k : Nat) {r : Array Value} {x : Lane.Ln} (hr : IsLane S w (.agg r) x) : AreL S w (rs.set k r) (xs.set k x) := by
  refine ⟨by simp [h.1], fun i q y h1 h2 => ?_⟩
  by_cases hik : k = i
  · subst hik
    rw [List.getElem?_set] at h1 h2
    simp only [if_true] at h1 h2
    split at h1
    · split at h2
      · injection h1 with h1; injection h2 with h2; subst h1; subst h2; exact hr
      · cases h2
    · cases h1
  · rw [List.getElem?_set_ne hik] at h1 h2
    exact h.2 i q y h1 h2
end Go.Proofs.Ytdchgnmkeefffaa
