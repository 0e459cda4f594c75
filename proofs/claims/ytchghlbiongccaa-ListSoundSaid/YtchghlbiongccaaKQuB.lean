/- The numbers of a quota: those that call few others. -/
import Derived.Test.YtchghlbiongccaaKQuA


namespace Go.Proofs.Ytchghlbiongccaa.quotas
set_option linter.unusedVariables false
set_option linter.unusedSimpArgs false
open Go.RowKit Go.Proofs.Ytchghlbiongccaa.base

/-- how often n (1 to 63) can be halved till it is 1 -/
def lg (n : Int) : Int := if n < 2 then 0 else if n < 4 then 1 else if n < 8 then 2 else if n < 16 then 3 else if n < 32 then 4 else 5
def leaves (a : Int) : Int := if a < 2 then 1 else a / 2

theorem leaves_in {a : Int} (h : 1 ≤ a ∧ a ≤ 64) : 1 ≤ leaves a ∧ leaves a ≤ 32 := by unfold leaves; split <;> omega
theorem lg_in (n : Int) : 0 ≤ lg n ∧ lg n ≤ 5 := by
  unfold lg
  repeat' split
  all_goals omega
theorem lg_low {n : Int} {i : Nat} (h : (i : Int) ≤ lg n) (h1 : 1 ≤ n ∧ n ≤ 32) (hi : i ≤ 5) : (2 : Int) ^ i ≤ n := by
  have h5 : i = 0 ∨ i = 1 ∨ i = 2 ∨ i = 3 ∨ i = 4 ∨ i = 5 := by omega
  unfold lg at h
  rcases h5 with rfl | rfl | rfl | rfl | rfl | rfl <;> (repeat' split at h) <;> simp at h ⊢ <;> omega
theorem lg_high {n : Int} {i : Nat} (h : lg n = i) (h1 : 1 ≤ n ∧ n ≤ 32) : n < 2 ^ (i + 1) := by
  have h5 : i = 0 ∨ i = 1 ∨ i = 2 ∨ i = 3 ∨ i = 4 ∨ i = 5 := by have := lg_in n; omega
  unfold lg at h
  rcases h5 with rfl | rfl | rfl | rfl | rfl | rfl <;> (repeat' split at h) <;> simp at h ⊢ <;> omega
theorem lg_half {n : Int} (h : 1 < n ∧ n ≤ 32) : lg (n / 2) = lg n - 1 := by
  unfold lg
  repeat' split
  all_goals omega
theorem lg_one {n : Int} (h : 1 ≤ n ∧ n ≤ 32) (h1 : ¬ 1 < n) : lg n = 0 := by
  unfold lg
  repeat' split
  all_goals omega

/-- a number of this quota, whatever the world -/
def Num (F : FuncId) (a b c d e f h v : Int) : Prop := ∀ w : World, Calls Try.prog F #[.agg #[.int .i64 a, .int .i64 b, .int .i64 c, .int .i64 d, .int .i64 e, .int .i64 f, .int .i64 h]] w fun x w' => x = .returned (.int .i64 v) ∧ Below w.heap.size w w'

theorem ret_eq {n m : Int} {w w' : World} (h : n = m) (hb : Below w.heap.size w w') : Ending.returned (.int .i64 n) = .returned (.int .i64 m) ∧ Below w.heap.size w w' := ⟨by rw [h], hb⟩
theorem ret_new {n m : Int} {w : World} (h : n = m) (ob : Obj) : Ending.returned (.int .i64 n) = .returned (.int .i64 m) ∧ Below w.heap.size w (w.alloc ob) := ⟨by rw [h], (Below.refl _ _).alloc (Nat.le_refl _) _⟩
theorem ret_same {n m : Int} {w : World} (h : n = m) : Ending.returned (.int .i64 n) = .returned (.int .i64 m) ∧ Below w.heap.size w w := ⟨by rw [h], Below.refl _ _⟩

set_option maxRecDepth 100000 in
theorem leaves_any (a b c d e f h : Int) (ha : 1 ≤ a ∧ a ≤ 64) : Num 84 a b c d e f h (leaves a) := by
  intro w
  obtain ⟨a1, a2⟩ := ha
  by_cases h2 : a / 2 ≤ 1
  · go_enter Try.func84, Try.ntmps84
    go_wp2_with fail
    go_ret
    exact ret_new (by unfold leaves; split <;> omega) _
  · go_enter Try.func84, Try.ntmps84
    go_wp2_with fail
    go_ret
    exact ret_new (by unfold leaves; split <;> omega) _

/-- the halvings' count at a round's head -/
def HHead (n : Int) (x : Value) (w0 w : World) : Prop := ∃ i : Nat, (i : Int) ≤ lg n ∧ x = .int .i64 i ∧ Below w0.heap.size w0 w

set_option maxRecDepth 100000 in
set_option maxHeartbeats 1000000 in
theorem halvings_any (n : Int) (w : World) (hn : 1 ≤ n ∧ n ≤ 32) :
    Calls Try.prog 83 #[.int .i64 n] w fun e w' => e = .returned (.int .i64 (lg n)) ∧ Below w.heap.size w w' := by
  obtain ⟨a1, a2⟩ := hn
  have hlg := lg_in n
  go_enter Try.func83, Try.ntmps83
  go_wp2_with fail
  go_loopw [5] (fun x wr => HHead n x w wr) (fun x _ => 10 - (intOf x).toNat)
  case atStart => exact ⟨0, by omega, rfl, Below.refl _ _⟩
  case round =>
    obtain ⟨i, hi, rfl, hb⟩ := hrel
    have h5 : i = 0 ∨ i = 1 ∨ i = 2 ∨ i = 3 ∨ i = 4 ∨ i = 5 := by omega
    by_cases hq : lg n = i
    · have hlow := lg_low hi (by omega) (by omega)
      have hhigh := lg_high hq (by omega)
      rcases h5 with rfl | rfl | rfl | rfl | rfl | rfl
      · simp at hlow hhigh
        have hz : (n == 1) = true := by simp; omega
        clear hhigh
        go_wp2_with fail
        go_ret
        exact ret_eq (by omega) hb
      · simp at hlow hhigh
        have hz : (n / 2 == 1) = true := by simp; omega
        clear hhigh
        go_wp2_with fail
        go_ret
        exact ret_eq (by omega) hb
      · simp at hlow hhigh
        have hz : (n / 4 == 1) = true := by simp; omega
        clear hhigh
        go_wp2_with fail
        go_ret
        exact ret_eq (by omega) hb
      · simp at hlow hhigh
        have hz : (n / 8 == 1) = true := by simp; omega
        clear hhigh
        go_wp2_with fail
        go_ret
        exact ret_eq (by omega) hb
      · simp at hlow hhigh
        have hz : (n / 16 == 1) = true := by simp; omega
        clear hhigh
        go_wp2_with fail
        go_ret
        exact ret_eq (by omega) hb
      · simp at hlow hhigh
        have hz : (n / 32 == 1) = true := by simp; omega
        clear hhigh
        go_wp2_with fail
        go_ret
        exact ret_eq (by omega) hb
    · have hlow := lg_low (n := n) (i := i + 1) (by omega) (by omega) (by omega)
      have h5 : i = 0 ∨ i = 1 ∨ i = 2 ∨ i = 3 ∨ i = 4 := by omega
      rcases h5 with rfl | rfl | rfl | rfl | rfl
      · simp at hlow
        have hz : (n == 1) = false := by simp; omega
        go_wp2_with fail
        exact ⟨⟨1, by omega, by rfl, hb⟩, by simp [intOf]⟩
      · simp at hlow
        have hz : (n / 2 == 1) = false := by simp; omega
        go_wp2_with fail
        exact ⟨⟨2, by omega, by rfl, hb⟩, by simp [intOf]⟩
      · simp at hlow
        have hz : (n / 4 == 1) = false := by simp; omega
        go_wp2_with fail
        exact ⟨⟨3, by omega, by rfl, hb⟩, by simp [intOf]⟩
      · simp at hlow
        have hz : (n / 8 == 1) = false := by simp; omega
        go_wp2_with fail
        exact ⟨⟨4, by omega, by rfl, hb⟩, by simp [intOf]⟩
      · simp at hlow
        have hz : (n / 16 == 1) = false := by simp; omega
        go_wp2_with fail
        exact ⟨⟨5, by omega, by rfl, hb⟩, by simp [intOf]⟩

end Go.Proofs.Ytchghlbiongccaa.quotas

/- The numbers of a quota: levels, bytes, pages, segments; the program's and the document's. -/

namespace Go.Proofs.Ytchghlbiongccaa.quotas
set_option linter.unusedVariables false
set_option linter.unusedSimpArgs false
open Go.RowKit Go.Proofs.Ytchghlbiongccaa.base

def lv (a : Int) : Int := 1 + lg (leaves a)
def most (b c d e : Int) : Int := if 4 + b + e * (17 + c + d) < 28 + b then 28 + b else 4 + b + e * (17 + c + d)
def pg (b c d e : Int) : Int := 15 + 4 * most b c d e
def lp (a : Int) : Int := 2 * leaves a - 1
theorem lay {p : Prop} (h : p) : Hid p := h
theorem seq {w w1 w2 : World} (h : Below w.heap.size w w1) (k : Below w1.heap.size w1 w2) : Below w.heap.size w w2 := h.trans (k.mono h.size)
theorem prod_in {c d e : Int} (h3 : 0 ≤ c ∧ c ≤ 32) (h4 : 0 ≤ d ∧ d ≤ 16) (h5 : 1 ≤ e ∧ e ≤ 4) : 0 ≤ e * (17 + c + d) ∧ e * (17 + c + d) ≤ 1000 := by
  have : e = 1 ∨ e = 2 ∨ e = 3 ∨ e = 4 := by omega
  rcases this with rfl | rfl | rfl | rfl <;> omega

set_option maxRecDepth 100000 in
set_option maxHeartbeats 400000 in
theorem levels_ok (a b c d e f h : Int) (hk : ok a b c d e f h) : Num 43 a b c d e f h (lv a) := by
  intro w
  have hle := leaves_in hk.1
  obtain ⟨g1, g2⟩ := lg_in (leaves a)
  go_enter Try.func43, Try.ntmps43
  go_wp2_with (first | (go_at_call 42; refine (right_ok _ _ _ _ _ _ _ _ hk).mono ?_; rintro x w1 ⟨rfl, hb1⟩; have I1 := (In7.new w a b c d e f h).next hb1; obtain ⟨⟨c0, c1, c2, c3, c4, c5, c6⟩, l1, l2, b1⟩ := I1) | (go_at_call 84; refine (leaves_any _ _ _ _ _ _ _ hk.1 _).mono ?_; rintro x w2 ⟨rfl, hb2⟩) | (go_at_call 83; refine (halvings_any _ _ hle).mono ?_; rintro x w3 ⟨rfl, hb3⟩))
  go_ret
  exact ret_eq rfl (seq (seq b1 hb2) hb3)

set_option maxRecDepth 100000 in
set_option maxHeartbeats 400000 in
theorem levels_no (a b c d e f h : Int) (hk : ¬ ok a b c d e f h) : Num 43 a b c d e f h 0 := by
  intro w
  go_enter Try.func43, Try.ntmps43
  go_wp2_with (go_at_call 42; refine (right_no _ _ _ _ _ _ _ _ hk).mono ?_; rintro x w1 ⟨rfl, hb1⟩; have I1 := (In7.new w a b c d e f h).next hb1; obtain ⟨⟨c0, c1, c2, c3, c4, c5, c6⟩, l1, l2, b1⟩ := I1)
  go_ret
  exact ret_eq rfl b1

set_option maxRecDepth 100000 in
set_option maxHeartbeats 400000 in
theorem live_no (a b c d e f h : Int) (hk : ¬ ok a b c d e f h) : Num 44 a b c d e f h 0 := by
  intro w
  go_enter Try.func44, Try.ntmps44
  go_wp2_with (go_at_call 42; refine (right_no _ _ _ _ _ _ _ _ hk).mono ?_; rintro x w1 ⟨rfl, hb1⟩; have I1 := (In7.new w a b c d e f h).next hb1; obtain ⟨⟨c0, c1, c2, c3, c4, c5, c6⟩, l1, l2, b1⟩ := I1)
  go_ret
  exact ret_eq rfl b1

/-- the document's count of levels at a round's head -/
def LHead (a : Int) (n l : Value) (w0 w : World) : Prop := ∃ x y : Int, n = .int .i64 x ∧ l = .int .i64 y ∧ 1 ≤ y ∧ y ≤ 32 ∧ 1 ≤ x ∧ x ≤ 6 ∧ Hid (x + lg y = lv a) ∧ Below w0.heap.size w0 w

set_option maxRecDepth 100000 in
set_option maxHeartbeats 400000 in
theorem live_ok (a b c d e f h : Int) (hk : ok a b c d e f h) : Num 44 a b c d e f h (lp a) := by
  intro w
  have hle := leaves_in hk.1
  obtain ⟨g1, g2⟩ := hle
  go_enter Try.func44, Try.ntmps44
  go_wp2_with (first | (go_at_call 42; refine (right_ok _ _ _ _ _ _ _ _ hk).mono ?_; rintro x w1 ⟨rfl, hb1⟩; have I1 := (In7.new w a b c d e f h).next hb1; obtain ⟨⟨c0, c1, c2, c3, c4, c5, c6⟩, l1, l2, b1⟩ := I1) | (go_at_call 84; refine (leaves_any _ _ _ _ _ _ _ hk.1 _).mono ?_; rintro x w2 ⟨rfl, hb2⟩))
  go_ret
  exact ret_eq rfl (seq b1 hb2)

end Go.Proofs.Ytchghlbiongccaa.quotas
