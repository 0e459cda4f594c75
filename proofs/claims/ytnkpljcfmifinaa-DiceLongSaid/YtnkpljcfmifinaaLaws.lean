/- The walks of the laws DiceLong, DicePlays, DiceOwn: each answers true and writes nothing that was there. -/
import Derived.Test.YtnkpljcfmifinaaDice
namespace Go.Proofs.Ytnkpljcfmifinaa.laws
open Go.RowKit Go.Proofs.Ytnkpljcfmifinaa.base Go.Proofs.Ytnkpljcfmifinaa.dice

theorem zeros (n : Nat) : madeCells #[.int .u64 0] n = ((List.replicate n (0 : Int)).map (Value.int .u64)).toArray := by
  apply Array.ext
  · simp [size_madeCells]
  · intro i h1 h2
    simp [madeCells, Nat.mod_one]

theorem long_at (n : Nat) (w : World) (hn : n ≤ 200000) :
    Calls Try.prog 6 #[.int .i64 (n : Int)] w fun e w' => e = .returned (.bool true) ∧ Below w.heap.size w w' := by
  obtain ⟨i0, hi, hz0, hz1, hz2⟩ := info_parts info64
  have hmk : ∀ u : World, (Instr.makeSlice 22 (.int .i64 (n : Int)) (.int .i64 (n : Int))).run Try.prog u =
      .ok (.slice (some ⟨u.heap.size, 0, none⟩) n n) (u.alloc (.cells (madeCells #[.int .u64 0] n) 31)) := fun u => by
    have h := run_make (P := Try.prog) u 22 31 i0 (.int .u64 0) Try.underlying22 hi hz0 .i64 .i64 (n : Int) (n : Int) (by omega) (Int.le_refl _) (by rw [hz2]; omega) (by omega)
    simpa [hz1, Value.cells] using h
  have hb := (Below.refl w.heap.size w).alloc (Nat.le_refl _) (.cells (madeCells #[.int .u64 0] n) 31)
  by_cases h : 100000 < n
  · go_enter Try.func6, Try.ntmps6
    go_wp2_with (go_at_call 9; refine (new_long _ _ _ _ h (by omega)).mono ?_; rintro e w1 ⟨rfl, rfl⟩)
    go_ret
    exact ⟨rfl, hb⟩
  · have hr : Rd (w.alloc (.cells (madeCells #[.int .u64 0] n) 31)) (w.heap.size + 1) (some ⟨w.heap.size, 0, none⟩) ((List.replicate n (0 : Int)).map (Value.int .u64)) := by
      have := Blk.new w 31 (madeCells #[.int .u64 0] n)
      rw [zeros] at this ⊢
      exact this.rd (by omega)
    have hc := new_ok (some ⟨w.heap.size, 0, none⟩) n (List.replicate n (0 : Int)) (w.alloc (.cells (madeCells #[.int .u64 0] n) 31)) (by simpa using hr) (by simp; omega)
    rw [List.length_replicate] at hc
    go_enter Try.func6, Try.ntmps6
    go_wp2_with (first
      | (go_at_call 9; refine hc.mono ?_; rintro e w1 ⟨gd, gl, rfl, hd, hbel⟩)
      | (go_at_call 10; refine (taken_ok _ _ _ _ _ _ hd).mono ?_; rintro e w2 ⟨rfl, rfl⟩))
    go_ret
    exact ⟨rfl, hb.trans (hbel.mono (by simp))⟩

theorem long_else (n : Int) (w : World) (hn : n < 0 ∨ 200000 < n) :
    Calls Try.prog 6 #[.int .i64 n] w fun e w' => e = .returned (.bool true) ∧ Below w.heap.size w w' := by
  obtain ⟨i0, hi, hz0, hz1, hz2⟩ := info_parts info64
  have hmk : ∀ u : World, (Instr.makeSlice 22 (.int .i64 100000) (.int .i64 100000)).run Try.prog u =
      .ok (.slice (some ⟨u.heap.size, 0, none⟩) 100000 100000) (u.alloc (.cells (madeCells #[.int .u64 0] 100000) 31)) := fun u => by
    have h := run_make (P := Try.prog) u 22 31 i0 (.int .u64 0) Try.underlying22 hi hz0 .i64 .i64 100000 100000 (by omega) (Int.le_refl _) (by rw [hz2]; omega) (by omega)
    rw [hz1] at h
    exact h
  have hb := (Below.refl w.heap.size w).alloc (Nat.le_refl _) (.cells (madeCells #[.int .u64 0] 100000) 31)
  have hr : Rd (w.alloc (.cells (madeCells #[.int .u64 0] 100000) 31)) (w.heap.size + 1) (some ⟨w.heap.size, 0, none⟩) ((List.replicate 100000 (0 : Int)).map (Value.int .u64)) := by
    have := Blk.new w 31 (madeCells #[.int .u64 0] 100000)
    rw [zeros] at this ⊢
    exact this.rd (by omega)
  have hc := new_ok (some ⟨w.heap.size, 0, none⟩) 100000 (List.replicate 100000 (0 : Int)) (w.alloc (.cells (madeCells #[.int .u64 0] 100000) 31)) (by rw [World.size_alloc]; exact hr) (by rw [List.length_replicate]; omega)
  rw [List.length_replicate] at hc
  clear hr
  rcases hn with h | h
  all_goals
    go_enter Try.func6, Try.ntmps6
    go_wp2_with (first
      | (go_at_call 9; refine hc.mono ?_; rintro e w1 ⟨gd, gl, rfl, hd, hbel⟩)
      | (go_at_call 10; refine (taken_ok _ _ _ _ _ _ hd).mono ?_; rintro e w2 ⟨rfl, rfl⟩))
    go_ret
    exact ⟨rfl, hb.trans (hbel.mono (by simp))⟩

theorem long_any (n : Int) (w : World) :
    Calls Try.prog 6 #[.int .i64 n] w fun e w' => e = .returned (.bool true) ∧ Below w.heap.size w w' := by
  by_cases h : n < 0 ∨ 200000 < n
  · exact long_else n w h
  · obtain ⟨k, rfl⟩ := Int.eq_ofNat_of_zero_le (show 0 ≤ n by omega)
    exact long_at k w (by omega)
end Go.Proofs.Ytnkpljcfmifinaa.laws
