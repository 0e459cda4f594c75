/- The walks of the laws QuotaRights, QuotaNumbers, QuotaRoom: each answers true and writes nothing that was there. -/
import Derived.Test.YtdgpbmbkhgjpkaaQuD


namespace Go.Proofs.Ytdgpbmbkhgjpkaa.quotas
set_option linter.unusedVariables false
set_option linter.unusedSimpArgs false
open Go.RowKit Go.Proofs.Ytdgpbmbkhgjpkaa.base

set_option maxRecDepth 100000 in
set_option maxHeartbeats 400000 in
theorem law_rights (a b c d e f h : Int) (w : World)  :
    Calls Try.prog 3 #[.agg #[.int .i64 a, .int .i64 b, .int .i64 c, .int .i64 d, .int .i64 e, .int .i64 f, .int .i64 h]] w fun x w' => x = .returned (.bool true) ∧ Below w.heap.size w w' := by
  by_cases hk : ok a b c d e f h
  · go_enter Try.func3, Try.ntmps3
    go_wp2_with fail
    obtain ⟨N, hN, hM⟩ := norms _ _ (In7.new w a b c d e f h)
    have hne : Nonempty World := ⟨w⟩
    have q0 := fun n => (hN n).1.1
    have q1 := fun n => (hN n).1.2.1
    have q2 := fun n => (hN n).1.2.2.1
    have q3 := fun n => (hN n).1.2.2.2.1
    have q4 := fun n => (hN n).1.2.2.2.2.1
    have q5 := fun n => (hN n).1.2.2.2.2.2.1
    have q6 := fun n => (hN n).1.2.2.2.2.2.2
    refine region_class N (by kernel_rfl) (by kernel_rfl) (hM _ (In7.new w a b c d e f h).drew) ?_
    repeat (go_big_quiet_step (first | (go_at_call 8; exact call_class hN hM (right_ok _ _ _ _ _ _ _ _ hk)) | (go_at_call 9; exact call_class hN hM (refRight_ok _ _ _ _ _ _ _ _ hk))))
    refine wpQuiet_nil ?_
    rintro _ ⟨n, rfl⟩
    have I9 := hN n
    generalize N n = w9 at I9 ⊢
    clear q0 q1 q2 q3 q4 q5 q6 hM hN N n hne
    obtain ⟨⟨c0, c1, c2, c3, c4, c5, c6⟩, l1, l2, b9⟩ := I9
    go_wp2_with fail
    go_ret
    exact ⟨rfl, b9⟩
  · go_enter Try.func3, Try.ntmps3
    go_wp2_with fail
    obtain ⟨N, hN, hM⟩ := norms _ _ (In7.new w a b c d e f h)
    have hne : Nonempty World := ⟨w⟩
    have q0 := fun n => (hN n).1.1
    have q1 := fun n => (hN n).1.2.1
    have q2 := fun n => (hN n).1.2.2.1
    have q3 := fun n => (hN n).1.2.2.2.1
    have q4 := fun n => (hN n).1.2.2.2.2.1
    have q5 := fun n => (hN n).1.2.2.2.2.2.1
    have q6 := fun n => (hN n).1.2.2.2.2.2.2
    refine region_class N (by kernel_rfl) (by kernel_rfl) (hM _ (In7.new w a b c d e f h).drew) ?_
    repeat (go_big_quiet_step (first | (go_at_call 8; exact call_class hN hM (right_no _ _ _ _ _ _ _ _ hk)) | (go_at_call 9; exact call_class hN hM (refRight_no _ _ _ _ _ _ _ _ hk))))
    refine wpQuiet_nil ?_
    rintro _ ⟨n, rfl⟩
    have I9 := hN n
    generalize N n = w9 at I9 ⊢
    clear q0 q1 q2 q3 q4 q5 q6 hM hN N n hne
    obtain ⟨⟨c0, c1, c2, c3, c4, c5, c6⟩, l1, l2, b9⟩ := I9
    go_wp2_with fail
    go_ret
    exact ⟨rfl, b9⟩

set_option maxRecDepth 100000 in
set_option maxHeartbeats 1000000 in
theorem numbers_of (a b c d e f h : Int) (w : World)  (v0 : Int) (p0 : Num 10 a b c d e f h v0) (r0 : Num 11 a b c d e f h v0) (v1 : Int) (p1 : Num 12 a b c d e f h v1) (r1 : Num 13 a b c d e f h v1) (v2 : Int) (p2 : Num 14 a b c d e f h v2) (r2 : Num 15 a b c d e f h v2) (v3 : Int) (p3 : Num 16 a b c d e f h v3) (r3 : Num 17 a b c d e f h v3) (v4 : Int) (p4 : Num 18 a b c d e f h v4) (r4 : Num 19 a b c d e f h v4) (v5 : Int) (p5 : Num 20 a b c d e f h v5) (r5 : Num 21 a b c d e f h v5) (v6 : Int) (p6 : Num 22 a b c d e f h v6) (r6 : Num 23 a b c d e f h v6) (v7 : Int) (p7 : Num 24 a b c d e f h v7) (r7 : Num 25 a b c d e f h v7) (v8 : Int) (p8 : Num 26 a b c d e f h v8) (r8 : Num 27 a b c d e f h v8) :
    Calls Try.prog 4 #[.agg #[.int .i64 a, .int .i64 b, .int .i64 c, .int .i64 d, .int .i64 e, .int .i64 f, .int .i64 h]] w fun x w' => x = .returned (.bool true) ∧ Below w.heap.size w w' := by
  go_enter Try.func4, Try.ntmps4
  go_wp2_with fail
  obtain ⟨N, hN, hM⟩ := norms _ _ (In7.new w a b c d e f h)
  have hne : Nonempty World := ⟨w⟩
  have q0 := fun n => (hN n).1.1
  have q1 := fun n => (hN n).1.2.1
  have q2 := fun n => (hN n).1.2.2.1
  have q3 := fun n => (hN n).1.2.2.2.1
  have q4 := fun n => (hN n).1.2.2.2.2.1
  have q5 := fun n => (hN n).1.2.2.2.2.2.1
  have q6 := fun n => (hN n).1.2.2.2.2.2.2
  refine region_class N (by kernel_rfl) (by kernel_rfl) (hM _ (In7.new w a b c d e f h).drew) ?_
  repeat (go_big_quiet_step (first | (go_at_call 10; exact call_class hN hM (p0 _)) | (go_at_call 11; exact call_class hN hM (r0 _)) | (go_at_call 12; exact call_class hN hM (p1 _)) | (go_at_call 13; exact call_class hN hM (r1 _)) | (go_at_call 14; exact call_class hN hM (p2 _)) | (go_at_call 15; exact call_class hN hM (r2 _)) | (go_at_call 16; exact call_class hN hM (p3 _)) | (go_at_call 17; exact call_class hN hM (r3 _))))
  refine wpQuiet_nil ?_
  rintro _ ⟨n, rfl⟩
  have I9 := hN n
  generalize N n = w9 at I9 ⊢
  clear q0 q1 q2 q3 q4 q5 q6 hM hN N n hne
  obtain ⟨⟨c0, c1, c2, c3, c4, c5, c6⟩, l1, l2, b9⟩ := I9
  go_wp2_with fail
  have I1 : In7 w w.heap.size a b c d e f h w9 := ⟨⟨c0, c1, c2, c3, c4, c5, c6⟩, l1, l2, b9⟩
  clear c0 c1 c2 c3 c4 c5 c6 l1 l2 b9
  obtain ⟨N, hN, hM⟩ := norms _ _ I1
  have hne : Nonempty World := ⟨w⟩
  have q0 := fun n => (hN n).1.1
  have q1 := fun n => (hN n).1.2.1
  have q2 := fun n => (hN n).1.2.2.1
  have q3 := fun n => (hN n).1.2.2.2.1
  have q4 := fun n => (hN n).1.2.2.2.2.1
  have q5 := fun n => (hN n).1.2.2.2.2.2.1
  have q6 := fun n => (hN n).1.2.2.2.2.2.2
  refine region_class N (by kernel_rfl) (by kernel_rfl) (hM _ I1.drew) ?_
  repeat (go_big_quiet_step (first | (go_at_call 18; exact call_class hN hM (p4 _)) | (go_at_call 19; exact call_class hN hM (r4 _)) | (go_at_call 20; exact call_class hN hM (p5 _)) | (go_at_call 21; exact call_class hN hM (r5 _)) | (go_at_call 22; exact call_class hN hM (p6 _)) | (go_at_call 23; exact call_class hN hM (r6 _)) | (go_at_call 24; exact call_class hN hM (p7 _)) | (go_at_call 25; exact call_class hN hM (r7 _)) | (go_at_call 26; exact call_class hN hM (p8 _)) | (go_at_call 27; exact call_class hN hM (r8 _))))
  refine wpQuiet_nil ?_
  rintro _ ⟨n, rfl⟩
  have I9 := hN n
  generalize N n = w9 at I9 ⊢
  clear q0 q1 q2 q3 q4 q5 q6 hM hN N n hne
  obtain ⟨⟨c0, c1, c2, c3, c4, c5, c6⟩, l1, l2, b9⟩ := I9
  go_wp2_with fail
  go_ret
  exact ⟨rfl, b9⟩

set_option maxRecDepth 100000 in
set_option maxHeartbeats 1000000 in
theorem room_ok (a b c d e f h : Int) (w : World) (hk : ok a b c d e f h) (L B R P O G K T : Int) (cL : Num 18 a b c d e f h L) (cB : Num 22 a b c d e f h B) (cR : Num 24 a b c d e f h R) (cP : Num 16 a b c d e f h P) (cO : Num 20 a b c d e f h O) (cG : Num 14 a b c d e f h G) (cK : Num 12 a b c d e f h K) (cT : Num 26 a b c d e f h T)
    (n1 : 1 ≤ L) (n2 : P ≤ 4 * L) (n3 : f * O ≤ 4 * B) (n4 : 4 * K ≤ G) (n5 : 1 ≤ K) (n6 : R < T - 1 - L) (n7 : L ≤ R + 1 - B) (n8 : L ≤ R + 1 - L) (n9 : 5 ≤ T) (m1 : L ≤ 100000) (m2 : 0 ≤ B ∧ B ≤ 100000) (m3 : 0 ≤ f * O ∧ f * O ≤ 100000) (m4 : 0 ≤ R ∧ R ≤ 100000) (m5 : K ≤ 100000) (m6 : T ≤ 100000) (m7 : 0 ≤ P) :
    Calls Try.prog 5 #[.agg #[.int .i64 a, .int .i64 b, .int .i64 c, .int .i64 d, .int .i64 e, .int .i64 f, .int .i64 h]] w fun x w' => x = .returned (.bool true) ∧ Below w.heap.size w w' := by
  obtain ⟨m21, m22⟩ := m2
  obtain ⟨m31, m32⟩ := m3
  obtain ⟨m41, m42⟩ := m4
  go_enter Try.func5, Try.ntmps5
  go_wp2_with (go_at_call 9; refine (refRight_ok _ _ _ _ _ _ _ _ hk).mono ?_; rintro x w1 ⟨rfl, hb1⟩; have J1 := (In7.new w a b c d e f h).next hb1; obtain ⟨⟨a0, a1, a2, a3, a4, a5, a6⟩, l1, l2, b1⟩ := id J1)
  refine (cL _).mono ?_
  rintro x w2 ⟨rfl, hb2⟩
  have J2 := J1.next hb2
  clear hb2 J1 a0 a1 a2 a3 a4 a5 a6 l1 l2 b1
  obtain ⟨⟨a0, a1, a2, a3, a4, a5, a6⟩, l1, l2, b1⟩ := id J2
  go_wp2_with fail
  refine (cB _).mono ?_
  rintro x w3 ⟨rfl, hb3⟩
  have J3 := J2.next hb3
  clear hb3 J2 a0 a1 a2 a3 a4 a5 a6 l1 l2 b1
  obtain ⟨⟨a0, a1, a2, a3, a4, a5, a6⟩, l1, l2, b1⟩ := id J3
  go_wp2_with fail
  refine (cR _).mono ?_
  rintro x w4 ⟨rfl, hb4⟩
  have J4 := J3.next hb4
  clear hb4 J3 a0 a1 a2 a3 a4 a5 a6 l1 l2 b1
  obtain ⟨⟨a0, a1, a2, a3, a4, a5, a6⟩, l1, l2, b1⟩ := id J4
  go_wp2_with fail
  clear a0 a1 a2 a3 a4 a5 a6 l1 l2 b1
  have d0 : decide (L < 1) = false := by simp; omega
  have d1 : decide (4 * L < P) = false := by simp; omega
  have d2 : decide (4 * B < f * O) = false := by simp; omega
  have d3 : decide (G < 4 * K) = false := by simp; omega
  have d4 : decide (K < 1) = false := by simp; omega
  obtain ⟨N, hN, hM⟩ := norms _ _ J4
  have hne : Nonempty World := ⟨w⟩
  have q0 := fun n => (hN n).1.1
  have q1 := fun n => (hN n).1.2.1
  have q2 := fun n => (hN n).1.2.2.1
  have q3 := fun n => (hN n).1.2.2.2.1
  have q4 := fun n => (hN n).1.2.2.2.2.1
  have q5 := fun n => (hN n).1.2.2.2.2.2.1
  have q6 := fun n => (hN n).1.2.2.2.2.2.2
  refine region_class N (by kernel_rfl) (by kernel_rfl) (hM _ J4.drew) ?_
  repeat (go_big_quiet_step (first | (go_at_call 16; exact call_class hN hM (cP _)) | (go_at_call 20; exact call_class hN hM (cO _)) | (go_at_call 14; exact call_class hN hM (cG _)) | (go_at_call 12; exact call_class hN hM (cK _))))
  refine wpQuiet_nil ?_
  rintro _ ⟨n, rfl⟩
  have I9 := hN n
  generalize N n = w9 at I9 ⊢
  clear q0 q1 q2 q3 q4 q5 q6 hM hN N n hne
  obtain ⟨⟨c0, c1, c2, c3, c4, c5, c6⟩, l1, l2, b9⟩ := I9
  go_wp2_with fail
  refine (cT _).mono ?_
  rintro x w5 ⟨rfl, hb5⟩
  have J5 := In7.next (a := a) (b := b) (c := c) (d := d) (e := e) (f := f) (h := h) (g := w.heap.size) (w0 := w) ⟨⟨c0, c1, c2, c3, c4, c5, c6⟩, l1, l2, b9⟩ hb5
  clear c0 c1 c2 c3 c4 c5 c6 l1 l2 b9 hb5
  obtain ⟨⟨a0, a1, a2, a3, a4, a5, a6⟩, l15, l25, b5⟩ := id J5
  go_wp2_with fail
  refine (cT _).mono ?_
  rintro x w6 ⟨rfl, hb6⟩
  go_wp2_with fail
  go_ret
  exact ⟨rfl, seq b5 hb6⟩

set_option maxRecDepth 100000 in
set_option maxHeartbeats 400000 in
theorem room_no (a b c d e f h : Int) (w : World) (hk : ¬ ok a b c d e f h) (cT : Num 26 a b c d e f h 0) :
    Calls Try.prog 5 #[.agg #[.int .i64 a, .int .i64 b, .int .i64 c, .int .i64 d, .int .i64 e, .int .i64 f, .int .i64 h]] w fun x w' => x = .returned (.bool true) ∧ Below w.heap.size w w' := by
  go_enter Try.func5, Try.ntmps5
  go_wp2_with (first | (go_at_call 9; refine (refRight_no _ _ _ _ _ _ _ _ hk).mono ?_; rintro x w1 ⟨rfl, hb1⟩; have J1 := (In7.new w a b c d e f h).next hb1; obtain ⟨⟨a0, a1, a2, a3, a4, a5, a6⟩, l1, l2, b1⟩ := id J1) | (go_at_call 26; refine (cT _).mono ?_; rintro x w2 ⟨rfl, hb2⟩))
  go_ret
  exact ⟨rfl, seq b1 hb2⟩

end Go.Proofs.Ytdgpbmbkhgjpkaa.quotas
