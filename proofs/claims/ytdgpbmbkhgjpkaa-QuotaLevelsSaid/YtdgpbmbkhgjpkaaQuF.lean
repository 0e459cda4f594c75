/- All numbers of a quota at once; the walks of QuotaNumbers, QuotaRoom and QuotaLevels. -/
import Derived.Test.YtdgpbmbkhgjpkaaQuE


namespace Go.Proofs.Ytdgpbmbkhgjpkaa.quotas
set_option linter.unusedVariables false
set_option linter.unusedSimpArgs false
open Go.RowKit Go.Proofs.Ytdgpbmbkhgjpkaa.base

def lsv (a : Int) : Int := (lp a + 3) / 4
def opv (a : Int) : Int := 3 * (lv a + 1)
def btv (a f : Int) : Int := (f * opv a + 3) / 4
def rsv (a f : Int) : Int := lsv a + mx (lsv a) (btv a f)
def sgv (a f : Int) : Int := rsv a f + lsv a + 2

theorem lv_in (a : Int) : 1 ≤ lv a ∧ lv a ≤ 6 := by have := lg_in (leaves a); unfold lv; omega
theorem lp_in {a : Int} (h : 1 ≤ a ∧ a ≤ 64) : 1 ≤ lp a ∧ lp a ≤ 63 := by have := leaves_in h; unfold lp; omega
theorem opv_in (a : Int) : 6 ≤ opv a ∧ opv a ≤ 21 := by have := lv_in a; unfold opv; omega
theorem fop_in {f p : Int} (hf : 1 ≤ f ∧ f ≤ 8) (hp : 0 ≤ p ∧ p ≤ 21) : 0 ≤ f * p ∧ f * p ≤ 168 := by
  have : f = 1 ∨ f = 2 ∨ f = 3 ∨ f = 4 ∨ f = 5 ∨ f = 6 ∨ f = 7 ∨ f = 8 := by omega
  rcases this with rfl | rfl | rfl | rfl | rfl | rfl | rfl | rfl <;> omega
theorem fop_ok {a f : Int} (hf : 1 ≤ f ∧ f ≤ 8) : 0 ≤ f * opv a ∧ f * opv a ≤ 168 := by have := opv_in a; exact fop_in hf ⟨by omega, by omega⟩
theorem lsv_in {a : Int} (h : 1 ≤ a ∧ a ≤ 64) : 1 ≤ lsv a ∧ lsv a ≤ 16 := by have := lp_in h; unfold lsv; omega
theorem btv_in {a f : Int} (hf : 1 ≤ f ∧ f ≤ 8) : 0 ≤ btv a f ∧ btv a f ≤ 43 := by have := fop_ok (a := a) hf; unfold btv; omega
theorem rsv_in {a f : Int} (h : 1 ≤ a ∧ a ≤ 64) (hf : 1 ≤ f ∧ f ≤ 8) : 0 ≤ rsv a f ∧ rsv a f ≤ 60 := by
  have h1 := lsv_in h; have h2 := btv_in (a := a) hf; unfold rsv mx; split <;> omega
theorem pg_in {b c d e : Int} (h2 : 1 ≤ b ∧ b ≤ 16) (h3 : 0 ≤ c ∧ c ≤ 32) (h4 : 0 ≤ d ∧ d ≤ 16) (h5 : 1 ≤ e ∧ e ≤ 4) : 15 ≤ pg b c d e ∧ pg b c d e ≤ 5000 := by
  have := prod_in h3 h4 h5
  unfold pg most
  split <;> omega

theorem nums_ok (a b c d e f h : Int) (hk : ok a b c d e f h) : Num 10 a b c d e f h (lv a) ∧ Num 12 a b c d e f h (pg b c d e) ∧ Num 14 a b c d e f h (4 * pg b c d e) ∧ Num 16 a b c d e f h (lp a) ∧ Num 18 a b c d e f h (lsv a) ∧ Num 20 a b c d e f h (opv a) ∧ Num 22 a b c d e f h (btv a f) ∧ Num 24 a b c d e f h (rsv a f) ∧ Num 26 a b c d e f h (sgv a f) := by
  have k1 := levels_ok a b c d e f h hk
  have k2 := page_ok a b c d e f h hk
  have k4 := live_ok a b c d e f h hk
  have k6 := opp_ok a b c d e f h hk
  have e1 := pg_in hk.2.1 hk.2.2.1 hk.2.2.2.1 hk.2.2.2.2.1
  have e2 := lp_in hk.1
  have e3 := fop_ok (a := a) hk.2.2.2.2.2.1
  have e4 := lsv_in hk.1
  have e5 := btv_in (a := a) hk.2.2.2.2.2.1
  have e6 := rsv_in hk.1 hk.2.2.2.2.2.1
  have k3 := segBytes_of a b c d e f h _ ⟨by omega, by omega⟩ k2
  have k5 := liveSegs_of a b c d e f h _ ⟨by omega, by omega⟩ k4
  have k7 := batch_of a b c d e f h (opv a) ⟨by omega, by omega⟩ k6
  have k8 := reserve_of a b c d e f h (lsv a) (btv a f) ⟨by omega, by omega⟩ ⟨by omega, by omega⟩ k5 k7
  have k9 := segs_ok a b c d e f h hk (lsv a) (rsv a f) ⟨by omega, by omega⟩ ⟨by omega, by omega⟩ k5 k8
  exact ⟨k1, k2, k3, k4, k5, k6, k7, k8, k9⟩

theorem nums_no (a b c d e f h : Int) (hk : ¬ ok a b c d e f h) : Num 10 a b c d e f h 0 ∧ Num 12 a b c d e f h 0 ∧ Num 14 a b c d e f h 0 ∧ Num 16 a b c d e f h 0 ∧ Num 18 a b c d e f h 0 ∧ Num 20 a b c d e f h 0 ∧ Num 22 a b c d e f h 0 ∧ Num 24 a b c d e f h 0 ∧ Num 26 a b c d e f h 0 := by
  have k1 := levels_no a b c d e f h hk
  have k2 := page_no a b c d e f h hk
  have k4 := live_no a b c d e f h hk
  have k6 := opp_no a b c d e f h hk
  have k9 := segs_no a b c d e f h hk
  have k3 := segBytes_of a b c d e f h _ ⟨by omega, by omega⟩ k2
  have k5 := liveSegs_of a b c d e f h _ ⟨by omega, by omega⟩ k4
  have k7 := batch_of a b c d e f h 0 ⟨by omega, by omega⟩ k6
  rw [show (f * 0 + 3) / 4 = 0 by omega] at k7
  have k8 := reserve_of a b c d e f h 0 0 ⟨by omega, by omega⟩ ⟨by omega, by omega⟩ k5 k7
  exact ⟨k1, k2, k3, k4, k5, k6, k7, k8, k9⟩

theorem refNums_ok (a b c d e f h : Int) (hk : ok a b c d e f h) : Num 11 a b c d e f h (lv a) ∧ Num 13 a b c d e f h (pg b c d e) ∧ Num 15 a b c d e f h (4 * pg b c d e) ∧ Num 17 a b c d e f h (lp a) ∧ Num 19 a b c d e f h (lsv a) ∧ Num 21 a b c d e f h (opv a) ∧ Num 23 a b c d e f h (btv a f) ∧ Num 25 a b c d e f h (rsv a f) ∧ Num 27 a b c d e f h (sgv a f) := by
  have k1 := refLevels_ok a b c d e f h hk
  have k2 := refPage_ok a b c d e f h hk
  have k4 := refLive_ok a b c d e f h hk
  have k6 := refOpp_ok a b c d e f h hk
  have e1 := pg_in hk.2.1 hk.2.2.1 hk.2.2.2.1 hk.2.2.2.2.1
  have e2 := lp_in hk.1
  have e3 := fop_ok (a := a) hk.2.2.2.2.2.1
  have e4 := lsv_in hk.1
  have e5 := btv_in (a := a) hk.2.2.2.2.2.1
  have e6 := rsv_in hk.1 hk.2.2.2.2.2.1
  have k3 := refSegBytes_of a b c d e f h _ ⟨by omega, by omega⟩ k2
  have k5 := refLiveSegs_of a b c d e f h _ ⟨by omega, by omega⟩ k4
  have k7 := refBatch_ok a b c d e f h hk (opv a) ⟨by omega, by omega⟩ k6
  have k8 := refReserve_of a b c d e f h (lsv a) (btv a f) ⟨by omega, by omega⟩ ⟨by omega, by omega⟩ k5 k7
  have k9 := refSegs_ok a b c d e f h hk (lsv a) (rsv a f) ⟨by omega, by omega⟩ ⟨by omega, by omega⟩ k5 k8
  exact ⟨k1, k2, k3, k4, k5, k6, k7, k8, k9⟩

theorem refNums_no (a b c d e f h : Int) (hk : ¬ ok a b c d e f h) : Num 11 a b c d e f h 0 ∧ Num 13 a b c d e f h 0 ∧ Num 15 a b c d e f h 0 ∧ Num 17 a b c d e f h 0 ∧ Num 19 a b c d e f h 0 ∧ Num 21 a b c d e f h 0 ∧ Num 23 a b c d e f h 0 ∧ Num 25 a b c d e f h 0 ∧ Num 27 a b c d e f h 0 := by
  have k1 := refLevels_no a b c d e f h hk
  have k2 := refPage_no a b c d e f h hk
  have k4 := refLive_no a b c d e f h hk
  have k6 := refOpp_no a b c d e f h hk
  have k9 := refSegs_no a b c d e f h hk
  have k3 := refSegBytes_of a b c d e f h _ ⟨by omega, by omega⟩ k2
  have k5 := refLiveSegs_of a b c d e f h _ ⟨by omega, by omega⟩ k4
  have k7 := refBatch_no a b c d e f h hk
  have k8 := refReserve_of a b c d e f h 0 0 ⟨by omega, by omega⟩ ⟨by omega, by omega⟩ k5 k7
  exact ⟨k1, k2, k3, k4, k5, k6, k7, k8, k9⟩

set_option maxRecDepth 100000 in
set_option maxHeartbeats 400000 in
theorem law_numbers (a b c d e f h : Int) (w : World) :
    Calls Try.prog 4 #[.agg #[.int .i64 a, .int .i64 b, .int .i64 c, .int .i64 d, .int .i64 e, .int .i64 f, .int .i64 h]] w fun x w' => x = .returned (.bool true) ∧ Below w.heap.size w w' := by
  by_cases hk : ok a b c d e f h
  · obtain ⟨p0, p1, p2, p3, p4, p5, p6, p7, p8⟩ := nums_ok a b c d e f h hk
    obtain ⟨r0, r1, r2, r3, r4, r5, r6, r7, r8⟩ := refNums_ok a b c d e f h hk
    exact numbers_of a b c d e f h w _ p0 r0 _ p1 r1 _ p2 r2 _ p3 r3 _ p4 r4 _ p5 r5 _ p6 r6 _ p7 r7 _ p8 r8
  · obtain ⟨p0, p1, p2, p3, p4, p5, p6, p7, p8⟩ := nums_no a b c d e f h hk
    obtain ⟨r0, r1, r2, r3, r4, r5, r6, r7, r8⟩ := refNums_no a b c d e f h hk
    exact numbers_of a b c d e f h w _ p0 r0 _ p1 r1 _ p2 r2 _ p3 r3 _ p4 r4 _ p5 r5 _ p6 r6 _ p7 r7 _ p8 r8

set_option maxRecDepth 100000 in
set_option maxHeartbeats 400000 in
theorem law_room (a b c d e f h : Int) (w : World) :
    Calls Try.prog 5 #[.agg #[.int .i64 a, .int .i64 b, .int .i64 c, .int .i64 d, .int .i64 e, .int .i64 f, .int .i64 h]] w fun x w' => x = .returned (.bool true) ∧ Below w.heap.size w w' := by
  by_cases hk : ok a b c d e f h
  · obtain ⟨p0, p1, p2, p3, p4, p5, p6, p7, p8⟩ := nums_ok a b c d e f h hk
    have e1 := pg_in hk.2.1 hk.2.2.1 hk.2.2.2.1 hk.2.2.2.2.1
    have e2 := lp_in hk.1
    have e3 := fop_ok (a := a) hk.2.2.2.2.2.1
    have e4 := lsv_in hk.1
    have e5 := btv_in (a := a) hk.2.2.2.2.2.1
    have e6 := rsv_in hk.1 hk.2.2.2.2.2.1
    have e7 : lsv a = (lp a + 3) / 4 := rfl
    have e8 : btv a f = (f * opv a + 3) / 4 := rfl
    have e9 : sgv a f = rsv a f + lsv a + 2 := rfl
    have ea : lsv a + lsv a ≤ rsv a f ∧ lsv a + btv a f ≤ rsv a f := by unfold rsv mx; split <;> omega
    exact room_ok a b c d e f h w hk _ _ _ _ _ _ _ _ p4 p6 p7 p3 p5 p2 p1 p8 (by omega) (by omega) (by omega) (by omega) (by omega) (by omega) (by omega) (by omega) (by omega) (by omega) ⟨by omega, by omega⟩ ⟨by omega, by omega⟩ ⟨by omega, by omega⟩ (by omega) (by omega) (by omega)
  · obtain ⟨p0, p1, p2, p3, p4, p5, p6, p7, p8⟩ := nums_no a b c d e f h hk
    exact room_no a b c d e f h w hk p8

theorem lv_eq {a : Int} (h : 1 ≤ a ∧ a ≤ 64) : lv a = if a < 4 then 1 else if a < 8 then 2 else if a < 16 then 3 else if a < 32 then 4 else if a < 64 then 5 else 6 := by
  unfold lv leaves lg
  by_cases h2 : a < 2
  · simp [h2]; omega
  · rw [if_neg h2]
    repeat' split
    all_goals omega
theorem lv_pow {a : Int} (h : 1 ≤ a ∧ a ≤ 64) {i : Nat} (hi : (i : Int) = lv a) : (lv a = 1 ∨ (2 : Int) ^ i ≤ a) ∧ a < 2 * 2 ^ i := by
  have h1 := lv_in a
  have h6 : i = 1 ∨ i = 2 ∨ i = 3 ∨ i = 4 ∨ i = 5 ∨ i = 6 := by omega
  have he := lv_eq h
  generalize lv a = n at *
  rcases h6 with rfl | rfl | rfl | rfl | rfl | rfl <;> simp <;> (repeat' split at he) <;> omega
theorem pow_in {i : Nat} (h : i ≤ 6) : 1 ≤ (2 : Int) ^ i ∧ (2 : Int) ^ i ≤ 64 ∧ (2 : Int) ^ (i + 1) = 2 ^ i * 2 := by
  have h6 : i = 0 ∨ i = 1 ∨ i = 2 ∨ i = 3 ∨ i = 4 ∨ i = 5 ∨ i = 6 := by omega
  rcases h6 with rfl | rfl | rfl | rfl | rfl | rfl | rfl <;> simp
/-- the law's powers of two at a round's head -/
def WHead (w0 : World) (a b c d e f h n : Int) (x y : Value) (w : World) : Prop := ∃ (i : Nat) (p : Int), (i : Int) ≤ n ∧ x = .int .i64 p ∧ y = .int .i64 i ∧ Hid (p = 2 ^ i) ∧ In7 w0 w0.heap.size a b c d e f h w

set_option maxRecDepth 100000 in
set_option maxHeartbeats 400000 in
theorem levels_law_no (a b c d e f h : Int) (w : World) (hk : ¬ ok a b c d e f h) (cL : Num 10 a b c d e f h 0) :
    Calls Try.prog 6 #[.agg #[.int .i64 a, .int .i64 b, .int .i64 c, .int .i64 d, .int .i64 e, .int .i64 f, .int .i64 h]] w fun x w' => x = .returned (.bool true) ∧ Below w.heap.size w w' := by
  go_enter Try.func6, Try.ntmps6
  go_wp2_with (first | (go_at_call 9; refine (refRight_no _ _ _ _ _ _ _ _ hk).mono ?_; rintro x w1 ⟨rfl, hb1⟩; have J1 := (In7.new w a b c d e f h).next hb1; obtain ⟨⟨a0, a1, a2, a3, a4, a5, a6⟩, l1, l2, b1⟩ := id J1) | (go_at_call 10; refine (cL _).mono ?_; rintro x w2 ⟨rfl, hb2⟩))
  go_ret
  exact ⟨rfl, seq b1 hb2⟩

set_option maxRecDepth 100000 in
set_option maxHeartbeats 400000 in
theorem levels_law_ok (a b c d e f h : Int) (w : World) (hk : ok a b c d e f h) (n P O : Int) (cL : Num 10 a b c d e f h n) (cP : Num 16 a b c d e f h P) (cO : Num 20 a b c d e f h O) (n1 : 1 ≤ n) (n2 : n ≤ 6) (n3 : ∀ i : Nat, (i : Int) = n → (n = 1 ∨ (2 : Int) ^ i ≤ a) ∧ a < 2 * 2 ^ i) (n4 : 1 ≤ P) (n5 : P ≤ 1 ∨ P ≤ a - 1) (n6 : O = 3 * (n + 1)) :
    Calls Try.prog 6 #[.agg #[.int .i64 a, .int .i64 b, .int .i64 c, .int .i64 d, .int .i64 e, .int .i64 f, .int .i64 h]] w fun x w' => x = .returned (.bool true) ∧ Below w.heap.size w w' := by
  obtain ⟨ha1, ha2⟩ := hk.1
  have hO : (O == 3 * (n + 1)) = true := by simp; omega
  clear n6
  go_enter Try.func6, Try.ntmps6
  go_wp2_with (first | (go_at_call 9; refine (refRight_ok _ _ _ _ _ _ _ _ hk).mono ?_; rintro x w1 ⟨rfl, hb1⟩; have J1 := (In7.new w a b c d e f h).next hb1; obtain ⟨⟨a0, a1, a2, a3, a4, a5, a6⟩, l1, l2, b1⟩ := id J1) | (go_at_call 10; refine (cL _).mono ?_; rintro x w2 ⟨rfl, hb2⟩))
  have J2 := J1.next hb2
  clear J1 hb1 hb2 a0 a1 a2 a3 a4 a5 a6 l1 l2 b1
  go_loopw [4, 5] (fun x y wr => WHead w a b c d e f h n x y wr) (fun _ y _ => (n - intOf y).toNat)
  case atStart => exact ⟨0, 1, by omega, rfl, rfl, lay rfl, J2⟩
  case round =>
    obtain ⟨i, p, hi, rfl, rfl, hp, J3⟩ := hrel
    obtain ⟨⟨a0, a1, a2, a3, a4, a5, a6⟩, l1, l2, b1⟩ := id J3
    obtain ⟨p1, p2⟩ : 1 ≤ p ∧ p ≤ 64 := by rw [hp.out]; exact ⟨(pow_in (by omega)).1, (pow_in (by omega)).2.1⟩
    by_cases hlt : (i : Int) < n
    · go_wp2_with fail
      exact ⟨⟨i + 1, p * 2, by omega, by rfl, by go_num, lay (by rw [(pow_in (by omega)).2.2, hp.out]), J3⟩, by simp [intOf]; omega⟩
    · have hin : (i : Int) = n := by omega
      obtain ⟨q1, q2⟩ := n3 i hin
      rw [← hp.out] at q1 q2
      clear hp hin n3
      have dn : decide (n < 1) = false := by simp; omega
      by_cases hn1 : n = 1
      · have d1 : (n == 1) = true := by simp [hn1]
        clear q1 hn1
        go_wp2_with fail
        refine (cP _).mono ?_
        rintro x w3 ⟨rfl, hb3⟩
        have J4 := J3.next hb3
        clear hb3 J3 a0 a1 a2 a3 a4 a5 a6 l1 l2 b1
        obtain ⟨⟨a0, a1, a2, a3, a4, a5, a6⟩, l1, l2, b1⟩ := id J4
        go_wp2_with fail
        all_goals (refine (cO _).mono ?_; rintro x w4 ⟨rfl, hb4⟩; go_wp2_with fail; go_ret; exact ⟨rfl, seq b1 hb4⟩)
      · have d1 : (n == 1) = false := by simp [hn1]
        have q3 : p ≤ a := by omega
        clear q1
        go_wp2_with fail
        refine (cP _).mono ?_
        rintro x w3 ⟨rfl, hb3⟩
        have J4 := J3.next hb3
        clear hb3 J3 a0 a1 a2 a3 a4 a5 a6 l1 l2 b1
        obtain ⟨⟨a0, a1, a2, a3, a4, a5, a6⟩, l1, l2, b1⟩ := id J4
        go_wp2_with fail
        all_goals (refine (cO _).mono ?_; rintro x w4 ⟨rfl, hb4⟩; go_wp2_with fail; go_ret; exact ⟨rfl, seq b1 hb4⟩)

set_option maxRecDepth 100000 in
set_option maxHeartbeats 400000 in
theorem law_levels (a b c d e f h : Int) (w : World) :
    Calls Try.prog 6 #[.agg #[.int .i64 a, .int .i64 b, .int .i64 c, .int .i64 d, .int .i64 e, .int .i64 f, .int .i64 h]] w fun x w' => x = .returned (.bool true) ∧ Below w.heap.size w w' := by
  by_cases hk : ok a b c d e f h
  · obtain ⟨p0, p1, p2, p3, p4, p5, p6, p7, p8⟩ := nums_ok a b c d e f h hk
    have e1 := lv_in a
    have e2 := lp_in hk.1
    have e3 : lp a ≤ 1 ∨ lp a ≤ a - 1 := by have := hk.1; unfold lp leaves; split <;> omega
    exact levels_law_ok a b c d e f h w hk _ _ _ p0 p3 p5 e1.1 e1.2 (fun i hi => lv_pow hk.1 hi) e2.1 e3 rfl
  · obtain ⟨p0, p1, p2, p3, p4, p5, p6, p7, p8⟩ := nums_no a b c d e f h hk
    exact levels_law_no a b c d e f h w hk p0

end Go.Proofs.Ytdgpbmbkhgjpkaa.quotas
