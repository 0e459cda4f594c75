/- The library's sort at numbers of kind uint64, sixth part: which number to part at. -/
import Derived.Test.YtnkpljcfmifinaaSortA
namespace Go.Proofs.Ytnkpljcfmifinaa.sorts
open Go.RowKit Go.Proofs.Ytnkpljcfmifinaa.base Go.Proofs.Ytnkpljcfmifinaa.swaps

/-- block s holds one number of kind int -/
def Cnt (w : World) (s : Nat) : Prop := ∃ k : Int, Blk w s 3 #[.int .i64 k]
theorem Cnt.lt {w : World} {s : Nat} (h : Cnt w s) : s < w.heap.size := by obtain ⟨k, hk⟩ := h; exact hk.lt

set_option maxRecDepth 100000 in
theorem order_ok (g n c s a b : Nat) (d : Nat → Int) (w : World) (hrow : Row w g n d) (hs : Cnt w s) (hgs : g ≠ s) (ha : a < n) (hb : b < n) :
    Calls Try.prog 37 #[.slice (some ⟨g, 0, none⟩) n c, .int .i64 a, .int .i64 b, .pointer (some ⟨s, 0, none⟩)] w fun e w' =>
      ∃ x y : Nat, e = .returned (.tuple #[.int .i64 x, .int .i64 y]) ∧ ((x = a ∧ y = b) ∨ (x = b ∧ y = a)) ∧ Cnt w' s ∧ Row w' g n d ∧ w.grownBy w' (some s) := by
  have hca : w.cell? ⟨g, a, none⟩ = some (.int .u64 (d a)) := hrow.cell (by omega)
  have hcb : w.cell? ⟨g, b, none⟩ = some (.int .u64 (d b)) := hrow.cell (by omega)
  obtain ⟨k, hk⟩ := hs
  have hck : w.cell? ⟨s, 0, none⟩ = some (.int .i64 k) := by rw [hk.cell]; rfl
  have hfk : w.frozen? ⟨s, 0, none⟩ = false := hk.frozen 0
  by_cases hlt : d b < d a
  · go_enter Try.func37, Try.ntmps37
    go_wp2_with fail
    go_quiet ((go_at_call 26; exact Calls.quiet_of_same (less_any _ _ _)))
    go_wp2
    go_ret2
    exact ⟨b, a, rfl, .inr ⟨rfl, rfl⟩, ⟨_, hk.put 0 _⟩, hrow.keep (Below.heap_setCell _ _ _ _ hgs), grown_trans (grown_drew (World.grownBy.refl _ _) _) (grown_set _ _ _ _)⟩
  · go_enter Try.func37, Try.ntmps37
    go_wp2_with fail
    go_quiet ((go_at_call 26; exact Calls.quiet_of_same (less_any _ _ _)))
    go_wp2
    go_ret2
    exact ⟨a, b, rfl, .inl ⟨rfl, rfl⟩, ⟨_, hk⟩, hrow, grown_drew (World.grownBy.refl _ _) _⟩

set_option maxRecDepth 100000 in
theorem median_ok (g n c s x y z lo hi : Nat) (d : Nat → Int) (w : World) (hrow : Row w g n d) (hs : Cnt w s) (hgs : g ≠ s) (hx : lo ≤ x ∧ x < hi) (hy : lo ≤ y ∧ y < hi) (hz : lo ≤ z ∧ z < hi) (hh : hi ≤ n) :
    Calls Try.prog 35 #[.slice (some ⟨g, 0, none⟩) n c, .int .i64 x, .int .i64 y, .int .i64 z, .pointer (some ⟨s, 0, none⟩)] w fun e w' =>
      ∃ m : Nat, e = .returned (.int .i64 m) ∧ lo ≤ m ∧ m < hi ∧ Cnt w' s ∧ Row w' g n d ∧ w.grownBy w' (some s) := by
  go_enter Try.func35, Try.ntmps35
  go_wp2_with fail
  refine (order_ok g n c s x y d _ hrow hs hgs (by omega) (by omega)).mono ?_
  rintro e w1 ⟨x1, y1, rfl, h1, hs1, hr1, hg1⟩
  go_wp2_with fail
  refine (order_ok g n c s _ _ d _ hr1 hs1 hgs (by omega) (by omega)).mono ?_
  rintro e w2 ⟨x2, y2, rfl, h2, hs2, hr2, hg2⟩
  go_wp2_with fail
  refine (order_ok g n c s _ _ d _ hr2 hs2 hgs (by omega) (by omega)).mono ?_
  rintro e w3 ⟨x3, y3, rfl, h3, hs3, hr3, hg3⟩
  go_wp2_with fail
  go_ret
  exact ⟨y3, rfl, by omega, by omega, hs3, hr3, grown_trans (grown_trans hg1 hg2) hg3⟩

set_option maxRecDepth 100000 in
theorem adjacent_ok (g n c s x lo hi : Nat) (d : Nat → Int) (w : World) (hrow : Row w g n d) (hs : Cnt w s) (hgs : g ≠ s) (hx : lo < x ∧ x + 1 < hi) (hh : hi ≤ n) (hn : n ≤ 100000000) :
    Calls Try.prog 34 #[.slice (some ⟨g, 0, none⟩) n c, .int .i64 x, .pointer (some ⟨s, 0, none⟩)] w fun e w' =>
      ∃ m : Nat, e = .returned (.int .i64 m) ∧ lo ≤ m ∧ m < hi ∧ Cnt w' s ∧ Row w' g n d ∧ w.grownBy w' (some s) := by
  have hc := median_ok g n c s (x - 1) x (x + 1) lo hi d w hrow hs hgs (by omega) (by omega) (by omega) hh
  rw [show ((x - 1 : Nat) : Int) = (x : Int) - 1 by omega, show ((x + 1 : Nat) : Int) = (x : Int) + 1 by omega] at hc
  go_enter Try.func34, Try.ntmps34
  go_wp2_with (go_at_call 35; ((with_reducible refine hc.mono ?_); rintro e w1 ⟨m, rfl, h1, h2, hs1, hr1, hg1⟩))
  go_ret
  exact ⟨m, rfl, h1, h2, hs1, hr1, hg1⟩

theorem pivot_end {w w1 w2 : World} {g n : Nat} {d : Nat → Int} {o : Obj} (hb : w1 = w.alloc o) (hg : w1.grownBy w2 (some w.heap.size)) (hr : Row w2 g n d) : Row w2 g n d ∧ Below w.heap.size w w2 := by
  subst hb
  exact ⟨hr, ((Below.refl _ w).alloc (Nat.le_refl _) _).grown hg (by simp) (by simp)⟩

set_option maxHeartbeats 1000000 in
set_option maxRecDepth 100000 in
theorem pivot_ok (g n c a b : Nat) (d : Nat → Int) (w : World) (hrow : Row w g n d) (hab : a + 8 ≤ b) (hbn : b ≤ n) (hn : n ≤ 100000000) :
    Calls Try.prog 23 #[.slice (some ⟨g, 0, none⟩) n c, .int .i64 a, .int .i64 b] w fun e w' =>
      ∃ (m : Nat) (h : Int), e = .returned (.tuple #[.int .i64 m, .int .i64 h]) ∧ a ≤ m ∧ m < b ∧ Row w' g n d ∧ Below w.heap.size w w' := by
  obtain ⟨q, hq⟩ : ∃ q : Nat, ((b : Int) - (a : Int)) / 4 = (q : Int) := ⟨(b - a) / 4, by omega⟩
  have hq1 : 4 * q ≤ b - a := by omega
  have hq2 : b - a < 4 * q + 4 := by omega
  have hs0 : Cnt (w.alloc (.cells #[.int .i64 0] 3)) w.heap.size := ⟨0, Blk.new w _ _⟩
  have hgs : g ≠ w.heap.size := by have := hrow.lt; omega
  have hr0 : Row (w.alloc (.cells #[.int .i64 0] 3)) g n d := hrow.keep (Below.heap_alloc w _ g hrow.lt)
  by_cases h50 : 50 ≤ b - a
  · have c1 := fun (W : World) (hW : Row W g n d) (hs : Cnt W w.heap.size) => adjacent_ok g n c w.heap.size (a + q) a b d W hW hs hgs (by omega) hbn hn
    have c2 := fun (W : World) (hW : Row W g n d) (hs : Cnt W w.heap.size) => adjacent_ok g n c w.heap.size (a + q * 2) a b d W hW hs hgs (by omega) hbn hn
    have c3 := fun (W : World) (hW : Row W g n d) (hs : Cnt W w.heap.size) => adjacent_ok g n c w.heap.size (a + q * 3) a b d W hW hs hgs (by omega) hbn hn
    rw [show ((a + q : Nat) : Int) = (a : Int) + (q : Int) by omega] at c1
    rw [show ((a + q * 2 : Nat) : Int) = (a : Int) + (q : Int) * 2 by omega] at c2
    rw [show ((a + q * 3 : Nat) : Int) = (a : Int) + (q : Int) * 3 by omega] at c3
    go_enter Try.func23, Try.ntmps23
    go_wp2_with fail
    refine (c1 _ hr0 hs0).mono ?_
    rintro e w1 ⟨m1, rfl, a1, b1, hs1, hr1, hg1⟩
    go_wp2_with fail
    refine (c2 _ hr1 hs1).mono ?_
    rintro e w2 ⟨m2, rfl, a2, b2, hs2, hr2, hg2⟩
    go_wp2_with fail
    refine (c3 _ hr2 hs2).mono ?_
    rintro e w3 ⟨m3, rfl, a3, b3, hs3, hr3, hg3⟩
    go_wp2_with fail
    refine (median_ok g n c w.heap.size m1 m2 m3 a b d _ hr3 hs3 hgs ⟨a1, b1⟩ ⟨a2, b2⟩ ⟨a3, b3⟩ hbn).mono ?_
    rintro e w4 ⟨m4, rfl, a4, b4, hs4, hr4, hg4⟩
    obtain ⟨k, hk⟩ := hs4
    have hck : w4.cell? ⟨w.heap.size, 0, none⟩ = some (.int .i64 k) := by rw [hk.cell]; rfl
    have HE := pivot_end rfl (grown_trans (grown_trans (grown_trans hg1 hg2) hg3) hg4) hr4
    clear c1 c2 c3 hk hs0 hs1 hs2 hs3 hr0 hr1 hr2 hr3 hg1 hg2 hg3 hg4
    go_wp2
    all_goals go_ret2
    all_goals exact ⟨m4, _, rfl, a4, b4, HE.1, HE.2⟩
  · have c4 := median_ok g n c w.heap.size (a + q) (a + q * 2) (a + q * 3) a b d _ hr0 hs0 hgs (by omega) (by omega) (by omega) hbn
    rw [show ((a + q : Nat) : Int) = (a : Int) + (q : Int) by omega, show ((a + q * 2 : Nat) : Int) = (a : Int) + (q : Int) * 2 by omega, show ((a + q * 3 : Nat) : Int) = (a : Int) + (q : Int) * 3 by omega] at c4
    go_enter Try.func23, Try.ntmps23
    go_wp2_with fail
    refine c4.mono ?_
    rintro e w4 ⟨m4, rfl, a4, b4, hs4, hr4, hg4⟩
    obtain ⟨k, hk⟩ := hs4
    have hck : w4.cell? ⟨w.heap.size, 0, none⟩ = some (.int .i64 k) := by rw [hk.cell]; rfl
    have HE := pivot_end rfl hg4 hr4
    clear hk hs0 hr0 hg4
    go_wp2
    all_goals go_ret2
    all_goals exact ⟨m4, _, rfl, a4, b4, HE.1, HE.2⟩
end Go.Proofs.Ytnkpljcfmifinaa.sorts
