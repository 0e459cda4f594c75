/- The numbers of a quota: levels, bytes, pages, segments; the program's and the document's. -/
import Derived.Test.YtdgpbmbkhgjpkaaQuB


namespace Go.Proofs.Ytdgpbmbkhgjpkaa.quotas
set_option linter.unusedVariables false
set_option linter.unusedSimpArgs false
open Go.RowKit Go.Proofs.Ytdgpbmbkhgjpkaa.base

def lv (a : Int) : Int := 1 + lg (leaves a)
def most (b c d e : Int) : Int := if 4 + b + e * (17 + c + d) < 28 + b then 28 + b else 4 + b + e * (17 + c + d)
def pg (b c d e : Int) : Int := 15 + 4 * most b c d e
def lp (a : Int) : Int := 2 * leaves a - 1
theorem lay {p : Prop} (h : p) : Hid p := h
theorem seq {w w1 w2 : World} (h : Below w.heap.size w w1) (k : Below w1.heap.size w1 w2) : Below w.heap.size w w2 := h.trans (k.mono h.size)
theorem prod_in {c d e : Int} (h3 : 0 ≤ c ∧ c ≤ 32) (h4 : 0 ≤ d ∧ d ≤ 16) (h5 : 1 ≤ e ∧ e ≤ 4) : 0 ≤ e * (17 + c + d) ∧ e * (17 + c + d) ≤ 1000 := by
  have : e = 1 ∨ e = 2 ∨ e = 3 ∨ e = 4 := by omega
  rcases this with rfl | rfl | rfl | rfl <;> omega

set_option maxRecDepth 100000 in
set_option maxHeartbeats 400000 in
theorem levels_ok (a b c d e f h : Int) (hk : ok a b c d e f h) : Num 10 a b c d e f h (lv a) := by
  intro w
  have hle := leaves_in hk.1
  obtain ⟨g1, g2⟩ := lg_in (leaves a)
  go_enter Try.func10, Try.ntmps10
  go_wp2_with (first | (go_at_call 8; refine (right_ok _ _ _ _ _ _ _ _ hk).mono ?_; rintro x w1 ⟨rfl, hb1⟩; have I1 := (In7.new w a b c d e f h).next hb1; obtain ⟨⟨c0, c1, c2, c3, c4, c5, c6⟩, l1, l2, b1⟩ := I1) | (go_at_call 30; refine (leaves_any _ _ _ _ _ _ _ hk.1 _).mono ?_; rintro x w2 ⟨rfl, hb2⟩) | (go_at_call 29; refine (halvings_any _ _ hle).mono ?_; rintro x w3 ⟨rfl, hb3⟩))
  go_ret
  exact ret_eq rfl (seq (seq b1 hb2) hb3)

set_option maxRecDepth 100000 in
set_option maxHeartbeats 400000 in
theorem levels_no (a b c d e f h : Int) (hk : ¬ ok a b c d e f h) : Num 10 a b c d e f h 0 := by
  intro w
  go_enter Try.func10, Try.ntmps10
  go_wp2_with (go_at_call 8; refine (right_no _ _ _ _ _ _ _ _ hk).mono ?_; rintro x w1 ⟨rfl, hb1⟩; have I1 := (In7.new w a b c d e f h).next hb1; obtain ⟨⟨c0, c1, c2, c3, c4, c5, c6⟩, l1, l2, b1⟩ := I1)
  go_ret
  exact ret_eq rfl b1

set_option maxRecDepth 100000 in
set_option maxHeartbeats 400000 in
theorem page_no (a b c d e f h : Int) (hk : ¬ ok a b c d e f h) : Num 12 a b c d e f h 0 := by
  intro w
  go_enter Try.func12, Try.ntmps12
  go_wp2_with (go_at_call 8; refine (right_no _ _ _ _ _ _ _ _ hk).mono ?_; rintro x w1 ⟨rfl, hb1⟩; have I1 := (In7.new w a b c d e f h).next hb1; obtain ⟨⟨c0, c1, c2, c3, c4, c5, c6⟩, l1, l2, b1⟩ := I1)
  go_ret
  exact ret_eq rfl b1

set_option maxRecDepth 100000 in
set_option maxHeartbeats 400000 in
theorem live_no (a b c d e f h : Int) (hk : ¬ ok a b c d e f h) : Num 16 a b c d e f h 0 := by
  intro w
  go_enter Try.func16, Try.ntmps16
  go_wp2_with (go_at_call 8; refine (right_no _ _ _ _ _ _ _ _ hk).mono ?_; rintro x w1 ⟨rfl, hb1⟩; have I1 := (In7.new w a b c d e f h).next hb1; obtain ⟨⟨c0, c1, c2, c3, c4, c5, c6⟩, l1, l2, b1⟩ := I1)
  go_ret
  exact ret_eq rfl b1

set_option maxRecDepth 100000 in
set_option maxHeartbeats 400000 in
theorem opp_no (a b c d e f h : Int) (hk : ¬ ok a b c d e f h) : Num 20 a b c d e f h 0 := by
  intro w
  go_enter Try.func20, Try.ntmps20
  go_wp2_with (go_at_call 8; refine (right_no _ _ _ _ _ _ _ _ hk).mono ?_; rintro x w1 ⟨rfl, hb1⟩; have I1 := (In7.new w a b c d e f h).next hb1; obtain ⟨⟨c0, c1, c2, c3, c4, c5, c6⟩, l1, l2, b1⟩ := I1)
  go_ret
  exact ret_eq rfl b1

set_option maxRecDepth 100000 in
set_option maxHeartbeats 400000 in
theorem segs_no (a b c d e f h : Int) (hk : ¬ ok a b c d e f h) : Num 26 a b c d e f h 0 := by
  intro w
  go_enter Try.func26, Try.ntmps26
  go_wp2_with (go_at_call 8; refine (right_no _ _ _ _ _ _ _ _ hk).mono ?_; rintro x w1 ⟨rfl, hb1⟩; have I1 := (In7.new w a b c d e f h).next hb1; obtain ⟨⟨c0, c1, c2, c3, c4, c5, c6⟩, l1, l2, b1⟩ := I1)
  go_ret
  exact ret_eq rfl b1

set_option maxRecDepth 100000 in
set_option maxHeartbeats 400000 in
theorem refLevels_no (a b c d e f h : Int) (hk : ¬ ok a b c d e f h) : Num 11 a b c d e f h 0 := by
  intro w
  go_enter Try.func11, Try.ntmps11
  go_wp2_with (go_at_call 9; refine (refRight_no _ _ _ _ _ _ _ _ hk).mono ?_; rintro x w1 ⟨rfl, hb1⟩; have I1 := (In7.new w a b c d e f h).next hb1; obtain ⟨⟨c0, c1, c2, c3, c4, c5, c6⟩, l1, l2, b1⟩ := I1)
  go_ret
  exact ret_eq rfl b1

set_option maxRecDepth 100000 in
set_option maxHeartbeats 400000 in
theorem refPage_no (a b c d e f h : Int) (hk : ¬ ok a b c d e f h) : Num 13 a b c d e f h 0 := by
  intro w
  go_enter Try.func13, Try.ntmps13
  go_wp2_with (go_at_call 9; refine (refRight_no _ _ _ _ _ _ _ _ hk).mono ?_; rintro x w1 ⟨rfl, hb1⟩; have I1 := (In7.new w a b c d e f h).next hb1; obtain ⟨⟨c0, c1, c2, c3, c4, c5, c6⟩, l1, l2, b1⟩ := I1)
  go_ret
  exact ret_eq rfl b1

set_option maxRecDepth 100000 in
set_option maxHeartbeats 400000 in
theorem refLive_no (a b c d e f h : Int) (hk : ¬ ok a b c d e f h) : Num 17 a b c d e f h 0 := by
  intro w
  go_enter Try.func17, Try.ntmps17
  go_wp2_with (go_at_call 9; refine (refRight_no _ _ _ _ _ _ _ _ hk).mono ?_; rintro x w1 ⟨rfl, hb1⟩; have I1 := (In7.new w a b c d e f h).next hb1; obtain ⟨⟨c0, c1, c2, c3, c4, c5, c6⟩, l1, l2, b1⟩ := I1)
  go_ret
  exact ret_eq rfl b1

set_option maxRecDepth 100000 in
set_option maxHeartbeats 400000 in
theorem refOpp_no (a b c d e f h : Int) (hk : ¬ ok a b c d e f h) : Num 21 a b c d e f h 0 := by
  intro w
  go_enter Try.func21, Try.ntmps21
  go_wp2_with (go_at_call 9; refine (refRight_no _ _ _ _ _ _ _ _ hk).mono ?_; rintro x w1 ⟨rfl, hb1⟩; have I1 := (In7.new w a b c d e f h).next hb1; obtain ⟨⟨c0, c1, c2, c3, c4, c5, c6⟩, l1, l2, b1⟩ := I1)
  go_ret
  exact ret_eq rfl b1

set_option maxRecDepth 100000 in
set_option maxHeartbeats 400000 in
theorem refBatch_no (a b c d e f h : Int) (hk : ¬ ok a b c d e f h) : Num 23 a b c d e f h 0 := by
  intro w
  go_enter Try.func23, Try.ntmps23
  go_wp2_with (go_at_call 9; refine (refRight_no _ _ _ _ _ _ _ _ hk).mono ?_; rintro x w1 ⟨rfl, hb1⟩; have I1 := (In7.new w a b c d e f h).next hb1; obtain ⟨⟨c0, c1, c2, c3, c4, c5, c6⟩, l1, l2, b1⟩ := I1)
  go_ret
  exact ret_eq rfl b1

set_option maxRecDepth 100000 in
set_option maxHeartbeats 400000 in
theorem refSegs_no (a b c d e f h : Int) (hk : ¬ ok a b c d e f h) : Num 27 a b c d e f h 0 := by
  intro w
  go_enter Try.func27, Try.ntmps27
  go_wp2_with (go_at_call 9; refine (refRight_no _ _ _ _ _ _ _ _ hk).mono ?_; rintro x w1 ⟨rfl, hb1⟩; have I1 := (In7.new w a b c d e f h).next hb1; obtain ⟨⟨c0, c1, c2, c3, c4, c5, c6⟩, l1, l2, b1⟩ := I1)
  go_ret
  exact ret_eq rfl b1

/-- the document's count of levels at a round's head -/
def LHead (a : Int) (n l : Value) (w0 w : World) : Prop := ∃ x y : Int, n = .int .i64 x ∧ l = .int .i64 y ∧ 1 ≤ y ∧ y ≤ 32 ∧ 1 ≤ x ∧ x ≤ 6 ∧ Hid (x + lg y = lv a) ∧ Below w0.heap.size w0 w

set_option maxRecDepth 100000 in
set_option maxHeartbeats 400000 in
theorem refLevels_ok (a b c d e f h : Int) (hk : ok a b c d e f h) : Num 11 a b c d e f h (lv a) := by
  intro w
  have hle := leaves_in hk.1
  obtain ⟨g1, g2⟩ := lg_in (leaves a)
  go_enter Try.func11, Try.ntmps11
  go_wp2_with (first | (go_at_call 9; refine (refRight_ok _ _ _ _ _ _ _ _ hk).mono ?_; rintro x w1 ⟨rfl, hb1⟩; have I1 := (In7.new w a b c d e f h).next hb1; obtain ⟨⟨c0, c1, c2, c3, c4, c5, c6⟩, l1, l2, b1⟩ := I1) | (go_at_call 31; refine (refLeaves_any _ _ _ _ _ _ _ hk.1 _).mono ?_; rintro x w2 ⟨rfl, hb2⟩))
  go_loopw [3, 4] (fun n l wr => LHead a n l w wr) (fun _ l _ => (intOf l).toNat)
  case atStart => exact ⟨1, leaves a, rfl, rfl, hle.1, hle.2, by omega, by omega, lay rfl, seq b1 hb2⟩
  case round =>
    obtain ⟨x, y, rfl, rfl, y1, y2, x1, x2, HL, hb⟩ := hrel
    by_cases hy : 1 < y
    · have hh := lay (lg_half (n := y) ⟨hy, y2⟩)
      have hg1 := lay (lg_in (y / 2))
      have hx6 : x ≤ 5 := by have h1 := HL.out; have h2 := hh.out; have h3 := hg1.out; unfold lv at h1; omega
      go_wp2_with fail
      exact ⟨⟨x + 1, y / 2, by rfl, by rfl, by omega, by omega, by omega, by omega, lay (by have h1 := HL.out; have h2 := hh.out; omega), hb⟩, by simp [intOf]; omega⟩
    · have hh := lay (lg_one (n := y) ⟨y1, y2⟩ hy)
      go_wp2_with fail
      go_ret
      exact ret_eq (by have h1 := HL.out; have h2 := hh.out; omega) hb

set_option maxRecDepth 100000 in
set_option maxHeartbeats 400000 in
theorem page_ok (a b c d e f h : Int) (hk : ok a b c d e f h) : Num 12 a b c d e f h (pg b c d e) := by
  intro w
  obtain ⟨k1, k2⟩ := prod_in hk.2.2.1 hk.2.2.2.1 hk.2.2.2.2.1
  obtain ⟨k3, k4⟩ := hk.2.1
  obtain ⟨k5, k6⟩ := hk.2.2.1
  obtain ⟨k7, k8⟩ := hk.2.2.2.1
  obtain ⟨k9, k10⟩ := hk.2.2.2.2.1
  by_cases hm : 4 + b + e * (17 + c + d) < 28 + b
  · go_enter Try.func12, Try.ntmps12
    go_wp2_with (go_at_call 8; refine (right_ok _ _ _ _ _ _ _ _ hk).mono ?_; rintro x w1 ⟨rfl, hb1⟩; have I1 := (In7.new w a b c d e f h).next hb1; obtain ⟨⟨c0, c1, c2, c3, c4, c5, c6⟩, l1, l2, b1⟩ := I1)
    go_ret
    exact ret_eq (by unfold pg most; split <;> omega) b1
  · go_enter Try.func12, Try.ntmps12
    go_wp2_with (go_at_call 8; refine (right_ok _ _ _ _ _ _ _ _ hk).mono ?_; rintro x w1 ⟨rfl, hb1⟩; have I1 := (In7.new w a b c d e f h).next hb1; obtain ⟨⟨c0, c1, c2, c3, c4, c5, c6⟩, l1, l2, b1⟩ := I1)
    go_ret
    exact ret_eq (by unfold pg most; split <;> omega) b1

set_option maxRecDepth 100000 in
set_option maxHeartbeats 400000 in
theorem refPage_ok (a b c d e f h : Int) (hk : ok a b c d e f h) : Num 13 a b c d e f h (pg b c d e) := by
  intro w
  obtain ⟨k1, k2⟩ := prod_in hk.2.2.1 hk.2.2.2.1 hk.2.2.2.2.1
  obtain ⟨k3, k4⟩ := hk.2.1
  obtain ⟨k5, k6⟩ := hk.2.2.1
  obtain ⟨k7, k8⟩ := hk.2.2.2.1
  obtain ⟨k9, k10⟩ := hk.2.2.2.2.1
  by_cases hm : 4 + b + e * (17 + c + d) < 28 + b
  · go_enter Try.func13, Try.ntmps13
    go_wp2_with (go_at_call 9; refine (refRight_ok _ _ _ _ _ _ _ _ hk).mono ?_; rintro x w1 ⟨rfl, hb1⟩; have I1 := (In7.new w a b c d e f h).next hb1; obtain ⟨⟨c0, c1, c2, c3, c4, c5, c6⟩, l1, l2, b1⟩ := I1)
    go_ret
    exact ret_eq (by unfold pg most; split <;> omega) b1
  · go_enter Try.func13, Try.ntmps13
    go_wp2_with (go_at_call 9; refine (refRight_ok _ _ _ _ _ _ _ _ hk).mono ?_; rintro x w1 ⟨rfl, hb1⟩; have I1 := (In7.new w a b c d e f h).next hb1; obtain ⟨⟨c0, c1, c2, c3, c4, c5, c6⟩, l1, l2, b1⟩ := I1)
    go_ret
    exact ret_eq (by unfold pg most; split <;> omega) b1

set_option maxRecDepth 100000 in
set_option maxHeartbeats 400000 in
theorem live_ok (a b c d e f h : Int) (hk : ok a b c d e f h) : Num 16 a b c d e f h (lp a) := by
  intro w
  have hle := leaves_in hk.1
  obtain ⟨g1, g2⟩ := hle
  go_enter Try.func16, Try.ntmps16
  go_wp2_with (first | (go_at_call 8; refine (right_ok _ _ _ _ _ _ _ _ hk).mono ?_; rintro x w1 ⟨rfl, hb1⟩; have I1 := (In7.new w a b c d e f h).next hb1; obtain ⟨⟨c0, c1, c2, c3, c4, c5, c6⟩, l1, l2, b1⟩ := I1) | (go_at_call 30; refine (leaves_any _ _ _ _ _ _ _ hk.1 _).mono ?_; rintro x w2 ⟨rfl, hb2⟩))
  go_ret
  exact ret_eq rfl (seq b1 hb2)

set_option maxRecDepth 100000 in
set_option maxHeartbeats 400000 in
theorem refLive_ok (a b c d e f h : Int) (hk : ok a b c d e f h) : Num 17 a b c d e f h (lp a) := by
  intro w
  have hle := leaves_in hk.1
  obtain ⟨g1, g2⟩ := hle
  go_enter Try.func17, Try.ntmps17
  go_wp2_with (first | (go_at_call 9; refine (refRight_ok _ _ _ _ _ _ _ _ hk).mono ?_; rintro x w1 ⟨rfl, hb1⟩; have I1 := (In7.new w a b c d e f h).next hb1; obtain ⟨⟨c0, c1, c2, c3, c4, c5, c6⟩, l1, l2, b1⟩ := I1) | (go_at_call 31; refine (refLeaves_any _ _ _ _ _ _ _ hk.1 _).mono ?_; rintro x w2 ⟨rfl, hb2⟩))
  go_ret
  exact ret_eq rfl (seq b1 hb2)

set_option maxRecDepth 100000 in
set_option maxHeartbeats 400000 in
theorem segBytes_of (a b c d e f h : Int) (p : Int) (hp : 0 ≤ p ∧ p ≤ 100000) (hc : Num 12 a b c d e f h p) : Num 14 a b c d e f h (4 * p) := by
  intro w
  obtain ⟨p1, p2⟩ := hp
  go_enter Try.func14, Try.ntmps14
  go_wp2_with (go_at_call 12; refine (hc _).mono ?_; rintro x w1 ⟨rfl, hb1⟩; have I1 := (In7.new w a b c d e f h).next hb1; obtain ⟨⟨c0, c1, c2, c3, c4, c5, c6⟩, l1, l2, b1⟩ := I1)
  go_ret
  exact ret_eq rfl b1

set_option maxRecDepth 100000 in
set_option maxHeartbeats 400000 in
theorem refSegBytes_of (a b c d e f h : Int) (p : Int) (hp : 0 ≤ p ∧ p ≤ 100000) (hc : Num 13 a b c d e f h p) : Num 15 a b c d e f h (4 * p) := by
  intro w
  obtain ⟨p1, p2⟩ := hp
  go_enter Try.func15, Try.ntmps15
  go_wp2_with (go_at_call 13; refine (hc _).mono ?_; rintro x w1 ⟨rfl, hb1⟩; have I1 := (In7.new w a b c d e f h).next hb1; obtain ⟨⟨c0, c1, c2, c3, c4, c5, c6⟩, l1, l2, b1⟩ := I1)
  go_ret
  exact ret_eq rfl b1

set_option maxRecDepth 100000 in
set_option maxHeartbeats 400000 in
theorem liveSegs_of (a b c d e f h : Int) (p : Int) (hp : 0 ≤ p ∧ p ≤ 100000) (hc : Num 16 a b c d e f h p) : Num 18 a b c d e f h ((p + 3) / 4) := by
  intro w
  go_enter Try.func18, Try.ntmps18
  go_wp2_with (first | (go_at_call 16; refine (hc _).mono ?_; rintro x w1 ⟨rfl, hb1⟩; have I1 := (In7.new w a b c d e f h).next hb1; obtain ⟨⟨c0, c1, c2, c3, c4, c5, c6⟩, l1, l2, b1⟩ := I1) | (go_at_call 32; refine (segsOf_any _ _ hp).mono ?_; rintro x w2 ⟨rfl, hb2⟩))
  go_ret
  exact ret_eq rfl (seq b1 hb2)

set_option maxRecDepth 100000 in
set_option maxHeartbeats 400000 in
theorem refLiveSegs_of (a b c d e f h : Int) (p : Int) (hp : 0 ≤ p ∧ p ≤ 100000) (hc : Num 17 a b c d e f h p) : Num 19 a b c d e f h ((p + 3) / 4) := by
  intro w
  go_enter Try.func19, Try.ntmps19
  go_wp2_with (first | (go_at_call 17; refine (hc _).mono ?_; rintro x w1 ⟨rfl, hb1⟩; have I1 := (In7.new w a b c d e f h).next hb1; obtain ⟨⟨c0, c1, c2, c3, c4, c5, c6⟩, l1, l2, b1⟩ := I1) | (go_at_call 33; refine (quarter_any _ _ hp).mono ?_; rintro x w2 ⟨rfl, hb2⟩))
  go_ret
  exact ret_eq rfl (seq b1 hb2)

set_option maxRecDepth 100000 in
set_option maxHeartbeats 400000 in
theorem opp_ok (a b c d e f h : Int) (hk : ok a b c d e f h) : Num 20 a b c d e f h (3 * (lv a + 1)) := by
  intro w
  have hle := lg_in (leaves a)
  obtain ⟨g1, g2⟩ : 1 ≤ lv a ∧ lv a ≤ 6 := by unfold lv; omega
  go_enter Try.func20, Try.ntmps20
  go_wp2_with (first | (go_at_call 8; refine (right_ok _ _ _ _ _ _ _ _ hk).mono ?_; rintro x w1 ⟨rfl, hb1⟩; have I1 := (In7.new w a b c d e f h).next hb1; obtain ⟨⟨c0, c1, c2, c3, c4, c5, c6⟩, l1, l2, b1⟩ := I1) | (go_at_call 10; refine (levels_ok _ _ _ _ _ _ _ hk _).mono ?_; rintro x w2 ⟨rfl, hb2⟩))
  go_ret
  exact ret_eq rfl (seq b1 hb2)

set_option maxRecDepth 100000 in
set_option maxHeartbeats 400000 in
theorem refOpp_ok (a b c d e f h : Int) (hk : ok a b c d e f h) : Num 21 a b c d e f h (3 * (lv a + 1)) := by
  intro w
  have hle := lg_in (leaves a)
  obtain ⟨g1, g2⟩ : 1 ≤ lv a ∧ lv a ≤ 6 := by unfold lv; omega
  go_enter Try.func21, Try.ntmps21
  go_wp2_with (first | (go_at_call 9; refine (refRight_ok _ _ _ _ _ _ _ _ hk).mono ?_; rintro x w1 ⟨rfl, hb1⟩; have I1 := (In7.new w a b c d e f h).next hb1; obtain ⟨⟨c0, c1, c2, c3, c4, c5, c6⟩, l1, l2, b1⟩ := I1) | (go_at_call 11; refine (refLevels_ok _ _ _ _ _ _ _ hk _).mono ?_; rintro x w2 ⟨rfl, hb2⟩))
  go_ret
  exact ret_eq rfl (seq b1 hb2)

end Go.Proofs.Ytdgpbmbkhgjpkaa.quotas
