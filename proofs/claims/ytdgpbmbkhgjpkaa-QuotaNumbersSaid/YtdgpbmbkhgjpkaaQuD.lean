/- The numbers of a quota whose statements draw their order: BatchSegs, Reserve, Segments. -/
import Derived.Test.YtdgpbmbkhgjpkaaQuC


namespace Go.Proofs.Ytdgpbmbkhgjpkaa.quotas
set_option linter.unusedVariables false
set_option linter.unusedSimpArgs false
open Go.RowKit Go.Proofs.Ytdgpbmbkhgjpkaa.base

def mx (l m : Int) : Int := if l < m then m else l
theorem mx_in {l m B : Int} (h : 0 ≤ l ∧ l ≤ B) (h2 : 0 ≤ m ∧ m ≤ B) : 0 ≤ mx l m ∧ mx l m ≤ B := by unfold mx; split <;> omega

set_option maxRecDepth 100000 in
set_option maxHeartbeats 400000 in
theorem batch_of (a b c d e f h : Int) (p : Int) (hp : 0 ≤ f * p ∧ f * p ≤ 100000) (hc : Num 20 a b c d e f h p) : Num 22 a b c d e f h ((f * p + 3) / 4) := by
  intro w
  obtain ⟨p1, p2⟩ := hp
  go_enter Try.func22, Try.ntmps22
  go_wp2_with fail
  obtain ⟨N, hN, hM⟩ := norms _ _ (In7.new w a b c d e f h)
  have hne : Nonempty World := ⟨w⟩
  have q0 := fun n => (hN n).1.1
  have q1 := fun n => (hN n).1.2.1
  have q2 := fun n => (hN n).1.2.2.1
  have q3 := fun n => (hN n).1.2.2.2.1
  have q4 := fun n => (hN n).1.2.2.2.2.1
  have q5 := fun n => (hN n).1.2.2.2.2.2.1
  have q6 := fun n => (hN n).1.2.2.2.2.2.2
  refine region_class N (by kernel_rfl) (by kernel_rfl) (hM _ (In7.new w a b c d e f h).drew) ?_
  repeat (go_big_quiet_step (first | (go_at_call 20; exact call_class hN hM (hc _)) | (go_at_call 32; exact call_class hN hM (segsOf_any _ _ ⟨by omega, by omega⟩))))
  refine wpQuiet_nil ?_
  rintro _ ⟨n, rfl⟩
  have I9 := hN n
  generalize N n = w9 at I9 ⊢
  clear q0 q1 q2 q3 q4 q5 q6 hM hN N n hne
  obtain ⟨⟨c0, c1, c2, c3, c4, c5, c6⟩, l1, l2, b9⟩ := I9
  go_wp2_with fail
  go_ret
  exact ret_eq rfl b9

set_option maxRecDepth 100000 in
set_option maxHeartbeats 400000 in
theorem reserve_of (a b c d e f h : Int) (l m : Int) (hl : 0 ≤ l ∧ l ≤ 100000) (hm : 0 ≤ m ∧ m ≤ 100000) (hc : Num 18 a b c d e f h l) (hd : Num 22 a b c d e f h m) : Num 24 a b c d e f h (l + mx l m) := by
  intro w
  obtain ⟨p1, p2⟩ := hl
  obtain ⟨p3, p4⟩ := hm
  by_cases hx : l < m
  · go_enter Try.func24, Try.ntmps24
    go_wp2_with fail
    obtain ⟨N, hN, hM⟩ := norms _ _ (In7.new w a b c d e f h)
    have hne : Nonempty World := ⟨w⟩
    have q0 := fun n => (hN n).1.1
    have q1 := fun n => (hN n).1.2.1
    have q2 := fun n => (hN n).1.2.2.1
    have q3 := fun n => (hN n).1.2.2.2.1
    have q4 := fun n => (hN n).1.2.2.2.2.1
    have q5 := fun n => (hN n).1.2.2.2.2.2.1
    have q6 := fun n => (hN n).1.2.2.2.2.2.2
    refine region_class N (by kernel_rfl) (by kernel_rfl) (hM _ (In7.new w a b c d e f h).drew) ?_
    repeat (go_big_quiet_step (first | (go_at_call 18; exact call_class hN hM (hc _)) | (go_at_call 22; exact call_class hN hM (hd _))))
    refine wpQuiet_nil ?_
    rintro _ ⟨n, rfl⟩
    have I9 := hN n
    generalize N n = w9 at I9 ⊢
    clear q0 q1 q2 q3 q4 q5 q6 hM hN N n hne
    obtain ⟨⟨c0, c1, c2, c3, c4, c5, c6⟩, l1, l2, b9⟩ := I9
    go_wp2_with fail
    go_ret
    exact ret_eq (by unfold mx; split <;> omega) b9
  · go_enter Try.func24, Try.ntmps24
    go_wp2_with fail
    obtain ⟨N, hN, hM⟩ := norms _ _ (In7.new w a b c d e f h)
    have hne : Nonempty World := ⟨w⟩
    have q0 := fun n => (hN n).1.1
    have q1 := fun n => (hN n).1.2.1
    have q2 := fun n => (hN n).1.2.2.1
    have q3 := fun n => (hN n).1.2.2.2.1
    have q4 := fun n => (hN n).1.2.2.2.2.1
    have q5 := fun n => (hN n).1.2.2.2.2.2.1
    have q6 := fun n => (hN n).1.2.2.2.2.2.2
    refine region_class N (by kernel_rfl) (by kernel_rfl) (hM _ (In7.new w a b c d e f h).drew) ?_
    repeat (go_big_quiet_step (first | (go_at_call 18; exact call_class hN hM (hc _)) | (go_at_call 22; exact call_class hN hM (hd _))))
    refine wpQuiet_nil ?_
    rintro _ ⟨n, rfl⟩
    have I9 := hN n
    generalize N n = w9 at I9 ⊢
    clear q0 q1 q2 q3 q4 q5 q6 hM hN N n hne
    obtain ⟨⟨c0, c1, c2, c3, c4, c5, c6⟩, l1, l2, b9⟩ := I9
    go_wp2_with fail
    go_ret
    exact ret_eq (by unfold mx; split <;> omega) b9

set_option maxRecDepth 100000 in
set_option maxHeartbeats 400000 in
theorem segs_ok (a b c d e f h : Int) (hk : ok a b c d e f h) (l r : Int) (hl : 0 ≤ l ∧ l ≤ 100000) (hr : 0 ≤ r ∧ r ≤ 200000) (hc : Num 18 a b c d e f h l) (hd : Num 24 a b c d e f h r) : Num 26 a b c d e f h (r + l + 2) := by
  intro w
  obtain ⟨p1, p2⟩ := hl
  obtain ⟨p3, p4⟩ := hr
  go_enter Try.func26, Try.ntmps26
  go_wp2_with (go_at_call 8; refine (right_ok _ _ _ _ _ _ _ _ hk).mono ?_; rintro x w1 ⟨rfl, hb1⟩; have I1 := (In7.new w a b c d e f h).next hb1; obtain ⟨⟨c0, c1, c2, c3, c4, c5, c6⟩, l1, l2, b1⟩ := I1)
  have I1 : In7 w w.heap.size a b c d e f h w1 := (In7.new w a b c d e f h).next hb1
  clear hb1 c0 c1 c2 c3 c4 c5 c6 l1 l2 b1
  obtain ⟨N, hN, hM⟩ := norms _ _ I1
  have hne : Nonempty World := ⟨w⟩
  have q0 := fun n => (hN n).1.1
  have q1 := fun n => (hN n).1.2.1
  have q2 := fun n => (hN n).1.2.2.1
  have q3 := fun n => (hN n).1.2.2.2.1
  have q4 := fun n => (hN n).1.2.2.2.2.1
  have q5 := fun n => (hN n).1.2.2.2.2.2.1
  have q6 := fun n => (hN n).1.2.2.2.2.2.2
  refine region_class N (by kernel_rfl) (by kernel_rfl) (hM _ I1.drew) ?_
  repeat (go_big_quiet_step (first | (go_at_call 18; exact call_class hN hM (hc _)) | (go_at_call 24; exact call_class hN hM (hd _))))
  refine wpQuiet_nil ?_
  rintro _ ⟨n, rfl⟩
  have I9 := hN n
  generalize N n = w9 at I9 ⊢
  clear q0 q1 q2 q3 q4 q5 q6 hM hN N n hne
  obtain ⟨⟨c0, c1, c2, c3, c4, c5, c6⟩, l1, l2, b9⟩ := I9
  go_wp2_with fail
  go_ret
  exact ret_eq rfl b9

set_option maxRecDepth 100000 in
set_option maxHeartbeats 400000 in
theorem refBatch_ok (a b c d e f h : Int) (hk : ok a b c d e f h) (p : Int) (hp : 0 ≤ f * p ∧ f * p ≤ 100000) (hc : Num 21 a b c d e f h p) : Num 23 a b c d e f h ((f * p + 3) / 4) := by
  intro w
  obtain ⟨p1, p2⟩ := hp
  go_enter Try.func23, Try.ntmps23
  go_wp2_with (go_at_call 9; refine (refRight_ok _ _ _ _ _ _ _ _ hk).mono ?_; rintro x w1 ⟨rfl, hb1⟩; have I1 := (In7.new w a b c d e f h).next hb1; obtain ⟨⟨c0, c1, c2, c3, c4, c5, c6⟩, l1, l2, b1⟩ := I1)
  have I1 : In7 w w.heap.size a b c d e f h w1 := (In7.new w a b c d e f h).next hb1
  clear hb1 c0 c1 c2 c3 c4 c5 c6 l1 l2 b1
  obtain ⟨N, hN, hM⟩ := norms _ _ I1
  have hne : Nonempty World := ⟨w⟩
  have q0 := fun n => (hN n).1.1
  have q1 := fun n => (hN n).1.2.1
  have q2 := fun n => (hN n).1.2.2.1
  have q3 := fun n => (hN n).1.2.2.2.1
  have q4 := fun n => (hN n).1.2.2.2.2.1
  have q5 := fun n => (hN n).1.2.2.2.2.2.1
  have q6 := fun n => (hN n).1.2.2.2.2.2.2
  refine region_class N (by kernel_rfl) (by kernel_rfl) (hM _ I1.drew) ?_
  repeat (go_big_quiet_step (first | (go_at_call 21; exact call_class hN hM (hc _)) | (go_at_call 33; exact call_class hN hM (quarter_any _ _ ⟨by omega, by omega⟩))))
  refine wpQuiet_nil ?_
  rintro _ ⟨n, rfl⟩
  have I9 := hN n
  generalize N n = w9 at I9 ⊢
  clear q0 q1 q2 q3 q4 q5 q6 hM hN N n hne
  obtain ⟨⟨c0, c1, c2, c3, c4, c5, c6⟩, l1, l2, b9⟩ := I9
  go_wp2_with fail
  go_ret
  exact ret_eq rfl b9

set_option maxRecDepth 100000 in
set_option maxHeartbeats 400000 in
theorem refReserve_of (a b c d e f h : Int) (l m : Int) (hl : 0 ≤ l ∧ l ≤ 100000) (hm : 0 ≤ m ∧ m ≤ 100000) (hc : Num 19 a b c d e f h l) (hd : Num 23 a b c d e f h m) : Num 25 a b c d e f h (l + mx l m) := by
  intro w
  obtain ⟨p1, p2⟩ := hl
  obtain ⟨p3, p4⟩ := hm
  by_cases hx : l < m
  · go_enter Try.func25, Try.ntmps25
    go_wp2_with fail
    obtain ⟨N, hN, hM⟩ := norms _ _ (In7.new w a b c d e f h)
    have hne : Nonempty World := ⟨w⟩
    have q0 := fun n => (hN n).1.1
    have q1 := fun n => (hN n).1.2.1
    have q2 := fun n => (hN n).1.2.2.1
    have q3 := fun n => (hN n).1.2.2.2.1
    have q4 := fun n => (hN n).1.2.2.2.2.1
    have q5 := fun n => (hN n).1.2.2.2.2.2.1
    have q6 := fun n => (hN n).1.2.2.2.2.2.2
    refine region_class N (by kernel_rfl) (by kernel_rfl) (hM _ (In7.new w a b c d e f h).drew) ?_
    repeat (go_big_quiet_step (first | (go_at_call 19; exact call_class hN hM (hc _)) | (go_at_call 23; exact call_class hN hM (hd _))))
    refine wpQuiet_nil ?_
    rintro _ ⟨n, rfl⟩
    have I9 := hN n
    generalize N n = w9 at I9 ⊢
    clear q0 q1 q2 q3 q4 q5 q6 hM hN N n hne
    obtain ⟨⟨c0, c1, c2, c3, c4, c5, c6⟩, l1, l2, b9⟩ := I9
    go_wp2_with fail
    have I1 : In7 w w.heap.size a b c d e f h w9 := ⟨⟨c0, c1, c2, c3, c4, c5, c6⟩, l1, l2, b9⟩
    clear c0 c1 c2 c3 c4 c5 c6 l1 l2 b9
    obtain ⟨N, hN, hM⟩ := norms _ _ I1
    have hne : Nonempty World := ⟨w⟩
    have q0 := fun n => (hN n).1.1
    have q1 := fun n => (hN n).1.2.1
    have q2 := fun n => (hN n).1.2.2.1
    have q3 := fun n => (hN n).1.2.2.2.1
    have q4 := fun n => (hN n).1.2.2.2.2.1
    have q5 := fun n => (hN n).1.2.2.2.2.2.1
    have q6 := fun n => (hN n).1.2.2.2.2.2.2
    refine region_class N (by kernel_rfl) (by kernel_rfl) (hM _ I1.drew) ?_
    repeat (go_big_quiet_step (first | (go_at_call 19; exact call_class hN hM (hc _)) | (go_at_call 23; exact call_class hN hM (hd _))))
    refine wpQuiet_nil ?_
    rintro _ ⟨n, rfl⟩
    have I9 := hN n
    generalize N n = w9 at I9 ⊢
    clear q0 q1 q2 q3 q4 q5 q6 hM hN N n hne
    obtain ⟨⟨c0, c1, c2, c3, c4, c5, c6⟩, l1, l2, b9⟩ := I9
    go_wp2_with fail
    go_ret
    exact ret_eq (by unfold mx; split <;> omega) b9
  · go_enter Try.func25, Try.ntmps25
    go_wp2_with fail
    obtain ⟨N, hN, hM⟩ := norms _ _ (In7.new w a b c d e f h)
    have hne : Nonempty World := ⟨w⟩
    have q0 := fun n => (hN n).1.1
    have q1 := fun n => (hN n).1.2.1
    have q2 := fun n => (hN n).1.2.2.1
    have q3 := fun n => (hN n).1.2.2.2.1
    have q4 := fun n => (hN n).1.2.2.2.2.1
    have q5 := fun n => (hN n).1.2.2.2.2.2.1
    have q6 := fun n => (hN n).1.2.2.2.2.2.2
    refine region_class N (by kernel_rfl) (by kernel_rfl) (hM _ (In7.new w a b c d e f h).drew) ?_
    repeat (go_big_quiet_step (first | (go_at_call 19; exact call_class hN hM (hc _)) | (go_at_call 23; exact call_class hN hM (hd _))))
    refine wpQuiet_nil ?_
    rintro _ ⟨n, rfl⟩
    have I9 := hN n
    generalize N n = w9 at I9 ⊢
    clear q0 q1 q2 q3 q4 q5 q6 hM hN N n hne
    obtain ⟨⟨c0, c1, c2, c3, c4, c5, c6⟩, l1, l2, b9⟩ := I9
    go_wp2_with (go_at_call 19; refine (hc _).mono ?_; rintro x w2 ⟨rfl, hb2⟩)
    go_ret
    exact ret_eq (by unfold mx; split <;> omega) (seq b9 hb2)

set_option maxRecDepth 100000 in
set_option maxHeartbeats 400000 in
theorem refSegs_ok (a b c d e f h : Int) (hk : ok a b c d e f h) (l r : Int) (hl : 0 ≤ l ∧ l ≤ 100000) (hr : 0 ≤ r ∧ r ≤ 200000) (hc : Num 19 a b c d e f h l) (hd : Num 25 a b c d e f h r) : Num 27 a b c d e f h (r + l + 2) := by
  intro w
  obtain ⟨p1, p2⟩ := hl
  obtain ⟨p3, p4⟩ := hr
  go_enter Try.func27, Try.ntmps27
  go_wp2_with (go_at_call 9; refine (refRight_ok _ _ _ _ _ _ _ _ hk).mono ?_; rintro x w1 ⟨rfl, hb1⟩; have I1 := (In7.new w a b c d e f h).next hb1; obtain ⟨⟨c0, c1, c2, c3, c4, c5, c6⟩, l1, l2, b1⟩ := I1)
  have I1 : In7 w w.heap.size a b c d e f h w1 := (In7.new w a b c d e f h).next hb1
  clear hb1 c0 c1 c2 c3 c4 c5 c6 l1 l2 b1
  obtain ⟨N, hN, hM⟩ := norms _ _ I1
  have hne : Nonempty World := ⟨w⟩
  have q0 := fun n => (hN n).1.1
  have q1 := fun n => (hN n).1.2.1
  have q2 := fun n => (hN n).1.2.2.1
  have q3 := fun n => (hN n).1.2.2.2.1
  have q4 := fun n => (hN n).1.2.2.2.2.1
  have q5 := fun n => (hN n).1.2.2.2.2.2.1
  have q6 := fun n => (hN n).1.2.2.2.2.2.2
  refine region_class N (by kernel_rfl) (by kernel_rfl) (hM _ I1.drew) ?_
  repeat (go_big_quiet_step (first | (go_at_call 19; exact call_class hN hM (hc _)) | (go_at_call 25; exact call_class hN hM (hd _))))
  refine wpQuiet_nil ?_
  rintro _ ⟨n, rfl⟩
  have I9 := hN n
  generalize N n = w9 at I9 ⊢
  clear q0 q1 q2 q3 q4 q5 q6 hM hN N n hne
  obtain ⟨⟨c0, c1, c2, c3, c4, c5, c6⟩, l1, l2, b9⟩ := I9
  go_wp2_with fail
  go_ret
  exact ret_eq rfl b9

end Go.Proofs.Ytdgpbmbkhgjpkaa.quotas
