/- The numbers of a quota: those that call few others. -/
import Derived.Test.YtnkfboplafckoaaQuN


namespace Go.Proofs.Ytnkfboplafckoaa.quotas
set_option linter.unusedVariables false
set_option linter.unusedSimpArgs false
open Go.RowKit Go.Proofs.Ytnkfboplafckoaa.base

/-- how often n (1 to 63) can be halved till it is 1 -/
def lg (n : Int) : Int := if n < 2 then 0 else if n < 4 then 1 else if n < 8 then 2 else if n < 16 then 3 else if n < 32 then 4 else 5
def leaves (a : Int) : Int := if a < 2 then 1 else a / 2

theorem leaves_in {a : Int} (h : 1 ≤ a ∧ a ≤ 64) : 1 ≤ leaves a ∧ leaves a ≤ 32 := by unfold leaves; split <;> omega
theorem lg_in (n : Int) : 0 ≤ lg n ∧ lg n ≤ 5 := by
  unfold lg
  repeat' split
  all_goals omega
theorem lg_low {n : Int} {i : Nat} (h : (i : Int) ≤ lg n) (h1 : 1 ≤ n ∧ n ≤ 32) (hi : i ≤ 5) : (2 : Int) ^ i ≤ n := by
  have h5 : i = 0 ∨ i = 1 ∨ i = 2 ∨ i = 3 ∨ i = 4 ∨ i = 5 := by omega
  unfold lg at h
  rcases h5 with rfl | rfl | rfl | rfl | rfl | rfl <;> (repeat' split at h) <;> simp at h ⊢ <;> omega
theorem lg_high {n : Int} {i : Nat} (h : lg n = i) (h1 : 1 ≤ n ∧ n ≤ 32) : n < 2 ^ (i + 1) := by
  have h5 : i = 0 ∨ i = 1 ∨ i = 2 ∨ i = 3 ∨ i = 4 ∨ i = 5 := by have := lg_in n; omega
  unfold lg at h
  rcases h5 with rfl | rfl | rfl | rfl | rfl | rfl <;> (repeat' split at h) <;> simp at h ⊢ <;> omega
theorem lg_half {n : Int} (h : 1 < n ∧ n ≤ 32) : lg (n / 2) = lg n - 1 := by
  unfold lg
  repeat' split
  all_goals omega
theorem lg_one {n : Int} (h : 1 ≤ n ∧ n ≤ 32) (h1 : ¬ 1 < n) : lg n = 0 := by
  unfold lg
  repeat' split
  all_goals omega

/-- a number of this quota, whatever the world -/
def Num (F : FuncId) (a b c d e f h v : Int) : Prop := ∀ w : World, Calls Try.prog F #[.agg #[.int .i64 a, .int .i64 b, .int .i64 c, .int .i64 d, .int .i64 e, .int .i64 f, .int .i64 h]] w fun x w' => x = .returned (.int .i64 v) ∧ Below w.heap.size w w'

theorem ret_eq {n m : Int} {w w' : World} (h : n = m) (hb : Below w.heap.size w w') : Ending.returned (.int .i64 n) = .returned (.int .i64 m) ∧ Below w.heap.size w w' := ⟨by rw [h], hb⟩
theorem ret_new {n m : Int} {w : World} (h : n = m) (ob : Obj) : Ending.returned (.int .i64 n) = .returned (.int .i64 m) ∧ Below w.heap.size w (w.alloc ob) := ⟨by rw [h], (Below.refl _ _).alloc (Nat.le_refl _) _⟩
theorem ret_same {n m : Int} {w : World} (h : n = m) : Ending.returned (.int .i64 n) = .returned (.int .i64 m) ∧ Below w.heap.size w w := ⟨by rw [h], Below.refl _ _⟩

/-- the halvings' count at a round's head -/
def HHead (n : Int) (x : Value) (w0 w : World) : Prop := ∃ i : Nat, (i : Int) ≤ lg n ∧ x = .int .i64 i ∧ Below w0.heap.size w0 w

end Go.Proofs.Ytnkfboplafckoaa.quotas
