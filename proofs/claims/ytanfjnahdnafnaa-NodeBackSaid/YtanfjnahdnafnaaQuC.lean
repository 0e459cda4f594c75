/- The numbers of a quota: levels, bytes, pages, segments; the program's and the document's. -/
import Derived.Test.YtanfjnahdnafnaaQuB


namespace Go.Proofs.Ytanfjnahdnafnaa.quotas
set_option linter.unusedVariables false
set_option linter.unusedSimpArgs false
open Go.RowKit Go.Proofs.Ytanfjnahdnafnaa.base

def lv (a : Int) : Int := 1 + lg (leaves a)
def most (b c d e : Int) : Int := if 4 + b + e * (17 + c + d) < 28 + b then 28 + b else 4 + b + e * (17 + c + d)
def pg (b c d e : Int) : Int := 15 + 4 * most b c d e
def lp (a : Int) : Int := 2 * leaves a - 1
theorem lay {p : Prop} (h : p) : Hid p := h
theorem seq {w w1 w2 : World} (h : Below w.heap.size w w1) (k : Below w1.heap.size w1 w2) : Below w.heap.size w w2 := h.trans (k.mono h.size)
theorem prod_in {c d e : Int} (h3 : 0 ≤ c ∧ c ≤ 32) (h4 : 0 ≤ d ∧ d ≤ 16) (h5 : 1 ≤ e ∧ e ≤ 4) : 0 ≤ e * (17 + c + d) ∧ e * (17 + c + d) ≤ 1000 := by
  have : e = 1 ∨ e = 2 ∨ e = 3 ∨ e = 4 := by omega
  rcases this with rfl | rfl | rfl | rfl <;> omega

set_option maxRecDepth 100000 in
set_option maxHeartbeats 400000 in
theorem page_no (a b c d e f h : Int) (hk : ¬ ok a b c d e f h) : Num 24 a b c d e f h 0 := by
  intro w
  go_enter Try.func24, Try.ntmps24
  go_wp2_with (go_at_call 30; refine (right_no _ _ _ _ _ _ _ _ hk).mono ?_; rintro x w1 ⟨rfl, hb1⟩; have I1 := (In7.new w a b c d e f h).next hb1; obtain ⟨⟨c0, c1, c2, c3, c4, c5, c6⟩, l1, l2, b1⟩ := I1)
  go_ret
  exact ret_eq rfl b1

/-- the document's count of levels at a round's head -/
def LHead (a : Int) (n l : Value) (w0 w : World) : Prop := ∃ x y : Int, n = .int .i64 x ∧ l = .int .i64 y ∧ 1 ≤ y ∧ y ≤ 32 ∧ 1 ≤ x ∧ x ≤ 6 ∧ Hid (x + lg y = lv a) ∧ Below w0.heap.size w0 w

set_option maxRecDepth 100000 in
set_option maxHeartbeats 400000 in
theorem page_ok (a b c d e f h : Int) (hk : ok a b c d e f h) : Num 24 a b c d e f h (pg b c d e) := by
  intro w
  obtain ⟨k1, k2⟩ := prod_in hk.2.2.1 hk.2.2.2.1 hk.2.2.2.2.1
  obtain ⟨k3, k4⟩ := hk.2.1
  obtain ⟨k5, k6⟩ := hk.2.2.1
  obtain ⟨k7, k8⟩ := hk.2.2.2.1
  obtain ⟨k9, k10⟩ := hk.2.2.2.2.1
  by_cases hm : 4 + b + e * (17 + c + d) < 28 + b
  · go_enter Try.func24, Try.ntmps24
    go_wp2_with (go_at_call 30; refine (right_ok _ _ _ _ _ _ _ _ hk).mono ?_; rintro x w1 ⟨rfl, hb1⟩; have I1 := (In7.new w a b c d e f h).next hb1; obtain ⟨⟨c0, c1, c2, c3, c4, c5, c6⟩, l1, l2, b1⟩ := I1)
    go_ret
    exact ret_eq (by unfold pg most; split <;> omega) b1
  · go_enter Try.func24, Try.ntmps24
    go_wp2_with (go_at_call 30; refine (right_ok _ _ _ _ _ _ _ _ hk).mono ?_; rintro x w1 ⟨rfl, hb1⟩; have I1 := (In7.new w a b c d e f h).next hb1; obtain ⟨⟨c0, c1, c2, c3, c4, c5, c6⟩, l1, l2, b1⟩ := I1)
    go_ret
    exact ret_eq (by unfold pg most; split <;> omega) b1

end Go.Proofs.Ytanfjnahdnafnaa.quotas
