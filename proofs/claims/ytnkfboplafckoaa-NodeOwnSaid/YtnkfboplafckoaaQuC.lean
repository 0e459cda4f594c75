/- The numbers of a quota: levels, bytes, pages, segments; the program's and the document's. -/
import Derived.Test.YtnkfboplafckoaaQuB


namespace Go.Proofs.Ytnkfboplafckoaa.quotas
set_option linter.unusedVariables false
set_option linter.unusedSimpArgs false
open Go.RowKit Go.Proofs.Ytnkfboplafckoaa.base

def lv (a : Int) : Int := 1 + lg (leaves a)
def most (b c d e : Int) : Int := if 4 + b + e * (17 + c + d) < 28 + b then 28 + b else 4 + b + e * (17 + c + d)
def pg (b c d e : Int) : Int := 15 + 4 * most b c d e
def lp (a : Int) : Int := 2 * leaves a - 1
theorem lay {p : Prop} (h : p) : Hid p := h
theorem seq {w w1 w2 : World} (h : Below w.heap.size w w1) (k : Below w1.heap.size w1 w2) : Below w.heap.size w w2 := h.trans (k.mono h.size)
theorem prod_in {c d e : Int} (h3 : 0 ≤ c ∧ c ≤ 32) (h4 : 0 ≤ d ∧ d ≤ 16) (h5 : 1 ≤ e ∧ e ≤ 4) : 0 ≤ e * (17 + c + d) ∧ e * (17 + c + d) ≤ 1000 := by
  have : e = 1 ∨ e = 2 ∨ e = 3 ∨ e = 4 := by omega
  rcases this with rfl | rfl | rfl | rfl <;> omega

/-- the document's count of levels at a round's head -/
def LHead (a : Int) (n l : Value) (w0 w : World) : Prop := ∃ x y : Int, n = .int .i64 x ∧ l = .int .i64 y ∧ 1 ≤ y ∧ y ≤ 32 ∧ 1 ≤ x ∧ x ≤ 6 ∧ Hid (x + lg y = lv a) ∧ Below w0.heap.size w0 w

end Go.Proofs.Ytnkfboplafckoaa.quotas
