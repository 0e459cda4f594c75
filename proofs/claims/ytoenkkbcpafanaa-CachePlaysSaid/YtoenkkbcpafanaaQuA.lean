/- Quotas: a quota in a box of the call's own; whether it may be, the program's and the document's. -/
import Derived.Test.YtoenkkbcpafanaaBase
import Derived.Test.YtoenkkbcpafanaaProg
import Derived.Below
import Derived.IntWalk


namespace Go.Proofs.Ytoenkkbcpafanaa.quotas
set_option linter.unusedVariables false
set_option linter.unusedSimpArgs false
open Go.RowKit Go.Proofs.Ytoenkkbcpafanaa.base

/-- behind the call's beginning: block g holds this quota, all that was there is as it was -/
def In7 (w0 : World) (g : Nat) (a b c d e f h : Int) (w : World) : Prop :=
  (w.cell? ⟨g, 0, none⟩ = some (.int .i64 a) ∧ w.cell? ⟨g, 1, none⟩ = some (.int .i64 b) ∧ w.cell? ⟨g, 2, none⟩ = some (.int .i64 c) ∧ w.cell? ⟨g, 3, none⟩ = some (.int .i64 d) ∧
    w.cell? ⟨g, 4, none⟩ = some (.int .i64 e) ∧ w.cell? ⟨g, 5, none⟩ = some (.int .i64 f) ∧ w.cell? ⟨g, 6, none⟩ = some (.int .i64 h)) ∧ w0.heap.size ≤ g ∧ g < w.heap.size ∧ Below w0.heap.size w0 w

section
variable {w0 w w' : World} {g : Nat} {a b c d e f h : Int}
theorem In7.new (w : World) (a b c d e f h : Int) : In7 w w.heap.size a b c d e f h (w.alloc (.cells #[.int .i64 a, .int .i64 b, .int .i64 c, .int .i64 d, .int .i64 e, .int .i64 f, .int .i64 h] 113)) := by
  have k := Blk.new w 113 #[.int .i64 a, .int .i64 b, .int .i64 c, .int .i64 d, .int .i64 e, .int .i64 f, .int .i64 h]
  exact ⟨⟨k.cell 0, k.cell 1, k.cell 2, k.cell 3, k.cell 4, k.cell 5, k.cell 6⟩, Nat.le_refl _, by simp, (Below.refl _ _).alloc (Nat.le_refl _) _⟩
theorem In7.next (h1 : In7 w0 g a b c d e f h w) (hb : Below w.heap.size w w') : In7 w0 g a b c d e f h w' := by
  obtain ⟨⟨c0, c1, c2, c3, c4, c5, c6⟩, h2, h3, h4⟩ := h1
  have hs := hb.size
  refine ⟨⟨?_, ?_, ?_, ?_, ?_, ?_, ?_⟩, h2, by omega, h4.trans (hb.mono h4.size)⟩ <;> (rw [hb.cell (by simpa using h3)]; assumption)
theorem In7.drew (h1 : In7 w0 g a b c d e f h w) : In7 w0 g a b c d e f h w.drew := ⟨h1.1, h1.2.1, h1.2.2.1, h1.2.2.2.drew⟩
theorem In7.alloc (h1 : In7 w0 g a b c d e f h w) (o : Obj) : In7 w0 g a b c d e f h (w.alloc o) := h1.next ((Below.refl _ _).alloc (Nat.le_refl _) _)
end

/-- a quota that may be -/
def ok (a b c d e f h : Int) : Prop := (1 ≤ a ∧ a ≤ 64) ∧ (1 ≤ b ∧ b ≤ 16) ∧ (0 ≤ c ∧ c ≤ 32) ∧ (0 ≤ d ∧ d ≤ 16) ∧ (1 ≤ e ∧ e ≤ 4) ∧ (1 ≤ f ∧ f ≤ 8) ∧ (0 ≤ h ∧ h ≤ 32)

theorem ret_of {v : Value} {w w' : World} {B : Nat} (hb : Below B w w') : (Ending.returned v = .returned v) ∧ Below B w w' := ⟨rfl, hb⟩

set_option maxRecDepth 100000 in
theorem within_yes (n l m : Int) (w : World) (h : l ≤ n ∧ n ≤ m) : Calls Try.prog 173 #[.int .i64 n, .int .i64 l, .int .i64 m] w fun e w' => e = .returned (.bool true) ∧ w = w' := by
  obtain ⟨h1, h2⟩ := h
  go_enter Try.func173, Try.ntmps173
  go_wp2_with fail
  go_ret
  exact ⟨rfl, rfl⟩
set_option maxRecDepth 100000 in
theorem within_no (n l m : Int) (w : World) (h : ¬ (l ≤ n ∧ n ≤ m)) : Calls Try.prog 173 #[.int .i64 n, .int .i64 l, .int .i64 m] w fun e w' => e = .returned (.bool false) ∧ w = w' := by
  by_cases h1 : l ≤ n
  · have h2 : ¬ n ≤ m := fun h2 => h ⟨h1, h2⟩
    clear h
    go_enter Try.func173, Try.ntmps173
    go_wp2_with fail
    go_ret
    exact ⟨rfl, rfl⟩
  · clear h
    go_enter Try.func173, Try.ntmps173
    go_wp2_with fail
    go_ret
    exact ⟨rfl, rfl⟩

set_option maxRecDepth 100000 in
set_option maxHeartbeats 400000 in
theorem right_ok (a b c d e f h : Int) (w : World) (hk : ok a b c d e f h) :
    Calls Try.prog 123 #[.agg #[.int .i64 a, .int .i64 b, .int .i64 c, .int .i64 d, .int .i64 e, .int .i64 f, .int .i64 h]] w fun e w' => e = .returned (.int .i64 0) ∧ Below w.heap.size w w' := by
  obtain ⟨h1, h2, h3, h4, h5, h6, h7⟩ := hk
  go_enter Try.func123, Try.ntmps123
  go_wp2_with (go_at_call 173; refine (within_yes _ _ _ _ ?_).mono ?_; (first | exact h1 | exact h2 | exact h3 | exact h4 | exact h5 | exact h6 | exact h7); rintro e w' ⟨rfl, rfl⟩)
  go_ret
  exact ⟨rfl, (Below.refl _ _).alloc (Nat.le_refl _) _⟩
set_option maxRecDepth 100000 in
set_option maxHeartbeats 400000 in
theorem right_no (a b c d e f h : Int) (w : World) (hk : ¬ ok a b c d e f h) :
    Calls Try.prog 123 #[.agg #[.int .i64 a, .int .i64 b, .int .i64 c, .int .i64 d, .int .i64 e, .int .i64 f, .int .i64 h]] w fun e w' => e = .returned (.int .i64 40) ∧ Below w.heap.size w w' := by
  by_cases h1 : 1 ≤ a ∧ a ≤ 64
  rotate_left
  · go_enter Try.func123, Try.ntmps123
    clear hk
    go_wp2_with ((go_at_call 173; refine (within_no _ _ _ _ ?_).mono ?_; exact h1; rintro e w' ⟨rfl, rfl⟩))
    go_ret
    exact ⟨rfl, (Below.refl _ _).alloc (Nat.le_refl _) _⟩
  by_cases h2 : 1 ≤ b ∧ b ≤ 16
  rotate_left
  · go_enter Try.func123, Try.ntmps123
    clear hk
    go_wp2_with (first | (go_at_call 173; refine (within_yes _ _ _ _ ?_).mono ?_; (first | exact h1); rintro e w' ⟨rfl, rfl⟩) | (go_at_call 173; refine (within_no _ _ _ _ ?_).mono ?_; exact h2; rintro e w' ⟨rfl, rfl⟩))
    go_ret
    exact ⟨rfl, (Below.refl _ _).alloc (Nat.le_refl _) _⟩
  by_cases h3 : 0 ≤ c ∧ c ≤ 32
  rotate_left
  · go_enter Try.func123, Try.ntmps123
    clear hk
    go_wp2_with (first | (go_at_call 173; refine (within_yes _ _ _ _ ?_).mono ?_; (first | exact h1 | exact h2); rintro e w' ⟨rfl, rfl⟩) | (go_at_call 173; refine (within_no _ _ _ _ ?_).mono ?_; exact h3; rintro e w' ⟨rfl, rfl⟩))
    go_ret
    exact ⟨rfl, (Below.refl _ _).alloc (Nat.le_refl _) _⟩
  by_cases h4 : 0 ≤ d ∧ d ≤ 16
  rotate_left
  · go_enter Try.func123, Try.ntmps123
    clear hk
    go_wp2_with (first | (go_at_call 173; refine (within_yes _ _ _ _ ?_).mono ?_; (first | exact h1 | exact h2 | exact h3); rintro e w' ⟨rfl, rfl⟩) | (go_at_call 173; refine (within_no _ _ _ _ ?_).mono ?_; exact h4; rintro e w' ⟨rfl, rfl⟩))
    go_ret
    exact ⟨rfl, (Below.refl _ _).alloc (Nat.le_refl _) _⟩
  by_cases h5 : 1 ≤ e ∧ e ≤ 4
  rotate_left
  · go_enter Try.func123, Try.ntmps123
    clear hk
    go_wp2_with (first | (go_at_call 173; refine (within_yes _ _ _ _ ?_).mono ?_; (first | exact h1 | exact h2 | exact h3 | exact h4); rintro e w' ⟨rfl, rfl⟩) | (go_at_call 173; refine (within_no _ _ _ _ ?_).mono ?_; exact h5; rintro e w' ⟨rfl, rfl⟩))
    go_ret
    exact ⟨rfl, (Below.refl _ _).alloc (Nat.le_refl _) _⟩
  by_cases h6 : 1 ≤ f ∧ f ≤ 8
  rotate_left
  · go_enter Try.func123, Try.ntmps123
    clear hk
    go_wp2_with (first | (go_at_call 173; refine (within_yes _ _ _ _ ?_).mono ?_; (first | exact h1 | exact h2 | exact h3 | exact h4 | exact h5); rintro e w' ⟨rfl, rfl⟩) | (go_at_call 173; refine (within_no _ _ _ _ ?_).mono ?_; exact h6; rintro e w' ⟨rfl, rfl⟩))
    go_ret
    exact ⟨rfl, (Below.refl _ _).alloc (Nat.le_refl _) _⟩
  by_cases h7 : 0 ≤ h ∧ h ≤ 32
  rotate_left
  · go_enter Try.func123, Try.ntmps123
    clear hk
    go_wp2_with (first | (go_at_call 173; refine (within_yes _ _ _ _ ?_).mono ?_; (first | exact h1 | exact h2 | exact h3 | exact h4 | exact h5 | exact h6); rintro e w' ⟨rfl, rfl⟩) | (go_at_call 173; refine (within_no _ _ _ _ ?_).mono ?_; exact h7; rintro e w' ⟨rfl, rfl⟩))
    go_ret
    exact ⟨rfl, (Below.refl _ _).alloc (Nat.le_refl _) _⟩
  exact absurd ⟨h1, h2, h3, h4, h5, h6, h7⟩ hk

set_option maxRecDepth 100000 in
set_option maxHeartbeats 400000 in
theorem refRight_ok (a b c d e f h : Int) (w : World) (hk : ok a b c d e f h) :
    Calls Try.prog 58 #[.agg #[.int .i64 a, .int .i64 b, .int .i64 c, .int .i64 d, .int .i64 e, .int .i64 f, .int .i64 h]] w fun e w' => e = .returned (.bool true) ∧ Below w.heap.size w w' := by
  obtain ⟨⟨h1, g1⟩, ⟨h2, g2⟩, ⟨h3, g3⟩, ⟨h4, g4⟩, ⟨h5, g5⟩, ⟨h6, g6⟩, ⟨h7, g7⟩⟩ := hk
  go_enter Try.func58, Try.ntmps58
  go_wp2_with fail
  go_ret
  exact ⟨rfl, (Below.refl _ _).alloc (Nat.le_refl _) _⟩

set_option maxRecDepth 100000 in
set_option maxHeartbeats 800000 in
theorem refRight_no (a b c d e f h : Int) (w : World) (hk : ¬ ok a b c d e f h) :
    Calls Try.prog 58 #[.agg #[.int .i64 a, .int .i64 b, .int .i64 c, .int .i64 d, .int .i64 e, .int .i64 f, .int .i64 h]] w fun e w' => e = .returned (.bool false) ∧ Below w.heap.size w w' := by
  by_cases h1 : 1 ≤ a
  rotate_left
  · clear hk
    go_enter Try.func58, Try.ntmps58
    go_wp2_with fail
    go_ret
    exact ⟨rfl, (Below.refl _ _).alloc (Nat.le_refl _) _⟩
  by_cases g1 : a ≤ 64
  rotate_left
  · clear hk
    go_enter Try.func58, Try.ntmps58
    go_wp2_with fail
    go_ret
    exact ⟨rfl, (Below.refl _ _).alloc (Nat.le_refl _) _⟩
  by_cases h2 : 1 ≤ b
  rotate_left
  · clear hk
    go_enter Try.func58, Try.ntmps58
    go_wp2_with fail
    go_ret
    exact ⟨rfl, (Below.refl _ _).alloc (Nat.le_refl _) _⟩
  by_cases g2 : b ≤ 16
  rotate_left
  · clear hk
    go_enter Try.func58, Try.ntmps58
    go_wp2_with fail
    go_ret
    exact ⟨rfl, (Below.refl _ _).alloc (Nat.le_refl _) _⟩
  by_cases h3 : 0 ≤ c
  rotate_left
  · clear hk
    go_enter Try.func58, Try.ntmps58
    go_wp2_with fail
    go_ret
    exact ⟨rfl, (Below.refl _ _).alloc (Nat.le_refl _) _⟩
  by_cases g3 : c ≤ 32
  rotate_left
  · clear hk
    go_enter Try.func58, Try.ntmps58
    go_wp2_with fail
    go_ret
    exact ⟨rfl, (Below.refl _ _).alloc (Nat.le_refl _) _⟩
  by_cases h4 : 0 ≤ d
  rotate_left
  · clear hk
    go_enter Try.func58, Try.ntmps58
    go_wp2_with fail
    go_ret
    exact ⟨rfl, (Below.refl _ _).alloc (Nat.le_refl _) _⟩
  by_cases g4 : d ≤ 16
  rotate_left
  · clear hk
    go_enter Try.func58, Try.ntmps58
    go_wp2_with fail
    go_ret
    exact ⟨rfl, (Below.refl _ _).alloc (Nat.le_refl _) _⟩
  by_cases h5 : 1 ≤ e
  rotate_left
  · clear hk
    go_enter Try.func58, Try.ntmps58
    go_wp2_with fail
    go_ret
    exact ⟨rfl, (Below.refl _ _).alloc (Nat.le_refl _) _⟩
  by_cases g5 : e ≤ 4
  rotate_left
  · clear hk
    go_enter Try.func58, Try.ntmps58
    go_wp2_with fail
    go_ret
    exact ⟨rfl, (Below.refl _ _).alloc (Nat.le_refl _) _⟩
  by_cases h6 : 1 ≤ f
  rotate_left
  · clear hk
    go_enter Try.func58, Try.ntmps58
    go_wp2_with fail
    go_ret
    exact ⟨rfl, (Below.refl _ _).alloc (Nat.le_refl _) _⟩
  by_cases g6 : f ≤ 8
  rotate_left
  · clear hk
    go_enter Try.func58, Try.ntmps58
    go_wp2_with fail
    go_ret
    exact ⟨rfl, (Below.refl _ _).alloc (Nat.le_refl _) _⟩
  by_cases h7 : 0 ≤ h
  rotate_left
  · clear hk
    go_enter Try.func58, Try.ntmps58
    go_wp2_with fail
    go_ret
    exact ⟨rfl, (Below.refl _ _).alloc (Nat.le_refl _) _⟩
  by_cases g7 : h ≤ 32
  rotate_left
  · clear hk
    go_enter Try.func58, Try.ntmps58
    go_wp2_with fail
    go_ret
    exact ⟨rfl, (Below.refl _ _).alloc (Nat.le_refl _) _⟩
  exact absurd ⟨⟨h1, g1⟩, ⟨h2, g2⟩, ⟨h3, g3⟩, ⟨h4, g4⟩, ⟨h5, g5⟩, ⟨h6, g6⟩, ⟨h7, g7⟩⟩ hk
end Go.Proofs.Ytoenkkbcpafanaa.quotas
