/- The walk of QuotaGrows. -/
import Derived.Test.YtdgpbmbkhgjpkaaQuF


namespace Go.Proofs.Ytdgpbmbkhgjpkaa.quotas
set_option linter.unusedVariables false
set_option linter.unusedSimpArgs false
open Go.RowKit Go.Proofs.Ytdgpbmbkhgjpkaa.base

/-- two quotas, each in a box of the call's own -/
def In14 (w0 : World) (a b c d e f h a' f' h' : Int) (w : World) : Prop := In7 w0 w0.heap.size a b c d e f h w ∧ In7 w0 (w0.heap.size + 1) a' b c d e f' h' w
theorem In14.new (w : World) (a b c d e f h a' f' h' : Int) : In14 w a b c d e f h a' f' h' ((w.alloc (.cells #[.int .i64 a, .int .i64 b, .int .i64 c, .int .i64 d, .int .i64 e, .int .i64 f, .int .i64 h] 23)).alloc (.cells #[.int .i64 a', .int .i64 b, .int .i64 c, .int .i64 d, .int .i64 e, .int .i64 f', .int .i64 h'] 23)) := by
  have k1 := (In7.new w a b c d e f h).alloc (.cells #[.int .i64 a', .int .i64 b, .int .i64 c, .int .i64 d, .int .i64 e, .int .i64 f', .int .i64 h'] 23)
  have k2 := In7.new (w.alloc (.cells #[.int .i64 a, .int .i64 b, .int .i64 c, .int .i64 d, .int .i64 e, .int .i64 f, .int .i64 h] 23)) a' b c d e f' h'
  rw [World.size_alloc] at k2
  exact ⟨k1, k2.1, by omega, k2.2.2.1, k1.2.2.2⟩
theorem In14.next {w0 w w' : World} {a b c d e f h a' f' h' : Int} (h1 : In14 w0 a b c d e f h a' f' h' w) (hb : Below w.heap.size w w') : In14 w0 a b c d e f h a' f' h' w' := ⟨h1.1.next hb, h1.2.next hb⟩
theorem In14.drew {w0 w : World} {a b c d e f h a' f' h' : Int} (h1 : In14 w0 a b c d e f h a' f' h' w) : In14 w0 a b c d e f h a' f' h' w.drew := ⟨h1.1.drew, h1.2.drew⟩
theorem call_class2 {P : Program} {g : FuncId} {args : Array Value} {v : Value} {w0 : World} {a b c d e f h a' f' h' : Int} {N : World → World} {n : World} (h1 : ∀ n, In14 w0 a b c d e f h a' f' h' (N n)) (h2 : ∀ w', In14 w0 a b c d e f h a' f' h' w' → ∃ n, w' = N n)
    (hc : Calls P g args (N n) fun e w' => e = .returned v ∧ Below (N n).heap.size (N n) w') : Calls P g args (N n) fun e w'' => e = .returned v ∧ ∃ m, w'' = N m :=
  hc.mono fun _ _ ⟨he, hb⟩ => ⟨he, h2 _ ((h1 n).next hb)⟩

theorem lv_le {a a' : Int} (h : 1 ≤ a ∧ a ≤ 64) (h' : 1 ≤ a' ∧ a' ≤ 64) (hl : a ≤ a') : lv a ≤ lv a' := by
  rw [lv_eq h, lv_eq h']
  repeat' split
  all_goals omega
theorem lp_le {a a' : Int} (h : 1 ≤ a ∧ a ≤ 64) (h' : 1 ≤ a' ∧ a' ≤ 64) (hl : a ≤ a') : lp a ≤ lp a' := by
  unfold lp leaves
  repeat' split
  all_goals omega
theorem opv_le {a a' : Int} (h : 1 ≤ a ∧ a ≤ 64) (h' : 1 ≤ a' ∧ a' ≤ 64) (hl : a ≤ a') : opv a ≤ opv a' := by have := lv_le h h' hl; unfold opv; omega
theorem lsv_le {a a' : Int} (h : 1 ≤ a ∧ a ≤ 64) (h' : 1 ≤ a' ∧ a' ≤ 64) (hl : a ≤ a') : lsv a ≤ lsv a' := by have := lp_le h h' hl; unfold lsv; omega
theorem btv_le {a a' f f' : Int} (h : 1 ≤ a ∧ a ≤ 64) (h' : 1 ≤ a' ∧ a' ≤ 64) (hl : a ≤ a') (hf : 1 ≤ f ∧ f ≤ 8) (hl' : f ≤ f') : btv a f ≤ btv a' f' := by
  have h1 := opv_le h h' hl
  have h2 := opv_in a
  have h3 : f * opv a ≤ f' * opv a' := Int.mul_le_mul hl' h1 (by omega) (by omega)
  unfold btv; omega
theorem rsv_le {a a' f f' : Int} (h : 1 ≤ a ∧ a ≤ 64) (h' : 1 ≤ a' ∧ a' ≤ 64) (hl : a ≤ a') (hf : 1 ≤ f ∧ f ≤ 8) (hl' : f ≤ f') : rsv a f ≤ rsv a' f' := by
  have h1 := lsv_le h h' hl
  have h2 := btv_le h h' hl hf hl'
  unfold rsv mx
  repeat' split
  all_goals omega
theorem sgv_le {a a' f f' : Int} (h : 1 ≤ a ∧ a ≤ 64) (h' : 1 ≤ a' ∧ a' ≤ 64) (hl : a ≤ a') (hf : 1 ≤ f ∧ f ≤ 8) (hl' : f ≤ f') : sgv a f ≤ sgv a' f' := by
  have h1 := lsv_le h h' hl
  have h2 := rsv_le h h' hl hf hl'
  unfold sgv; omega

set_option maxRecDepth 100000 in
set_option maxHeartbeats 400000 in
theorem grows_no (a b c d e f h a' f' h' : Int) (w : World) (hk : ¬ ok a b c d e f h) :
    Calls Try.prog 7 #[.agg #[.int .i64 a, .int .i64 b, .int .i64 c, .int .i64 d, .int .i64 e, .int .i64 f, .int .i64 h], .int .i64 a', .int .i64 f', .int .i64 h'] w fun x w' => x = .returned (.bool true) ∧ Below w.heap.size w w' := by
  go_enter Try.func7, Try.ntmps7
  go_wp2_with (go_at_call 9; refine (refRight_no _ _ _ _ _ _ _ _ hk).mono ?_; rintro x w1 ⟨rfl, hb1⟩)
  go_ret
  exact ⟨rfl, ((In14.new w a b c d e f h a' f' h').next hb1).1.2.2.2⟩

set_option maxRecDepth 100000 in
set_option maxHeartbeats 400000 in
theorem grows_no2 (a b c d e f h a' f' h' : Int) (w : World) (hk : ok a b c d e f h) (hk' : ¬ ok a' b c d e f' h') :
    Calls Try.prog 7 #[.agg #[.int .i64 a, .int .i64 b, .int .i64 c, .int .i64 d, .int .i64 e, .int .i64 f, .int .i64 h], .int .i64 a', .int .i64 f', .int .i64 h'] w fun x w' => x = .returned (.bool true) ∧ Below w.heap.size w w' := by
  go_enter Try.func7, Try.ntmps7
  go_wp2_with fail
  refine (refRight_ok _ _ _ _ _ _ _ _ hk).mono ?_
  rintro x w1 ⟨rfl, hb1⟩
  have J1 := (In14.new w a b c d e f h a' f' h').next hb1
  clear hb1
  obtain ⟨⟨⟨t0, t1, t2, t3, t4, t5, t6⟩, tl, tm, tb⟩, ⟨⟨t7, t8, t9, t10, t11, t12, t13⟩, tn, to, tp⟩⟩ := id J1
  go_wp2_with fail
  refine (refRight_no _ _ _ _ _ _ _ _ hk').mono ?_
  rintro x w2 ⟨rfl, hb2⟩
  go_wp2_with fail
  go_ret
  exact ⟨rfl, seq tb hb2⟩

set_option maxRecDepth 100000 in
set_option maxHeartbeats 1000000 in
theorem grows_less (a b c d e f h a' f' h' : Int) (w : World) (hk : ok a b c d e f h) (hk' : ok a' b c d e f' h') (hl : a' < a ∨ (a ≤ a' ∧ f' < f)) :
    Calls Try.prog 7 #[.agg #[.int .i64 a, .int .i64 b, .int .i64 c, .int .i64 d, .int .i64 e, .int .i64 f, .int .i64 h], .int .i64 a', .int .i64 f', .int .i64 h'] w fun x w' => x = .returned (.bool true) ∧ Below w.heap.size w w' := by
  rcases hl with hl | ⟨hl1, hl2⟩
  · go_enter Try.func7, Try.ntmps7
    go_wp2_with fail
    refine (refRight_ok _ _ _ _ _ _ _ _ hk).mono ?_
    rintro x w1 ⟨rfl, hb1⟩
    have J1 := (In14.new w a b c d e f h a' f' h').next hb1
    clear hb1
    obtain ⟨⟨⟨t0, t1, t2, t3, t4, t5, t6⟩, tl, tm, tb⟩, ⟨⟨t7, t8, t9, t10, t11, t12, t13⟩, tn, to, tp⟩⟩ := id J1
    go_wp2_with fail
    refine (refRight_ok _ _ _ _ _ _ _ _ hk').mono ?_
    rintro x w2 ⟨rfl, hb2⟩
    have J2 := J1.next hb2
    clear hb2 J1
    clear t0 t1 t2 t3 t4 t5 t6 t7 t8 t9 t10 t11 t12 t13 tl tm tb tn to tp
    obtain ⟨⟨⟨t0, t1, t2, t3, t4, t5, t6⟩, tl, tm, tb⟩, ⟨⟨t7, t8, t9, t10, t11, t12, t13⟩, tn, to, tp⟩⟩ := id J2
    go_wp2_with fail
    clear t0 t1 t2 t3 t4 t5 t6 t7 t8 t9 t10 t11 t12 t13 tl tm tb tn to tp
    have e1 := pg_in hk.2.1 hk.2.2.1 hk.2.2.2.1 hk.2.2.2.2.1
    have d7 : decide (pg b c d e < 15) = false := by simp; omega
    obtain ⟨N, hN, hM⟩ := norms _ _ J2
    have hne : Nonempty World := ⟨w⟩
    have q0 := fun n => (hN n).1.1.1
    have q1 := fun n => (hN n).1.1.2.1
    have q2 := fun n => (hN n).1.1.2.2.1
    have q3 := fun n => (hN n).1.1.2.2.2.1
    have q4 := fun n => (hN n).1.1.2.2.2.2.1
    have q5 := fun n => (hN n).1.1.2.2.2.2.2.1
    have q6 := fun n => (hN n).1.1.2.2.2.2.2.2
    have q7 := fun n => (hN n).2.1.1
    have q8 := fun n => (hN n).2.1.2.1
    have q9 := fun n => (hN n).2.1.2.2.1
    have q10 := fun n => (hN n).2.1.2.2.2.1
    have q11 := fun n => (hN n).2.1.2.2.2.2.1
    have q12 := fun n => (hN n).2.1.2.2.2.2.2.1
    have q13 := fun n => (hN n).2.1.2.2.2.2.2.2
    refine region_class N (by kernel_rfl) (by kernel_rfl) (hM _ J2.drew) ?_
    repeat (go_big_quiet_step (first | (go_at_call 12; refine call_class2 hN hM ((nums_ok _ _ _ _ _ _ _ ?_).2.1 _); (first | exact hk | exact hk')) | (go_at_call 14; refine call_class2 hN hM ((nums_ok _ _ _ _ _ _ _ ?_).2.2.1 _); (first | exact hk | exact hk'))))
    refine wpQuiet_nil ?_
    rintro _ ⟨n, rfl⟩
    have I9 := hN n
    generalize N n = w9 at I9 ⊢
    clear q0 q1 q2 q3 q4 q5 q6 q7 q8 q9 q10 q11 q12 q13 hM hN N n hne
    obtain ⟨⟨⟨t0, t1, t2, t3, t4, t5, t6⟩, tl, tm, tb⟩, ⟨⟨t7, t8, t9, t10, t11, t12, t13⟩, tn, to, tp⟩⟩ := id I9
    go_wp2_with fail
    go_ret
    exact ⟨rfl, tb⟩
  · go_enter Try.func7, Try.ntmps7
    go_wp2_with fail
    refine (refRight_ok _ _ _ _ _ _ _ _ hk).mono ?_
    rintro x w1 ⟨rfl, hb1⟩
    have J1 := (In14.new w a b c d e f h a' f' h').next hb1
    clear hb1
    obtain ⟨⟨⟨t0, t1, t2, t3, t4, t5, t6⟩, tl, tm, tb⟩, ⟨⟨t7, t8, t9, t10, t11, t12, t13⟩, tn, to, tp⟩⟩ := id J1
    go_wp2_with fail
    refine (refRight_ok _ _ _ _ _ _ _ _ hk').mono ?_
    rintro x w2 ⟨rfl, hb2⟩
    have J2 := J1.next hb2
    clear hb2 J1
    clear t0 t1 t2 t3 t4 t5 t6 t7 t8 t9 t10 t11 t12 t13 tl tm tb tn to tp
    obtain ⟨⟨⟨t0, t1, t2, t3, t4, t5, t6⟩, tl, tm, tb⟩, ⟨⟨t7, t8, t9, t10, t11, t12, t13⟩, tn, to, tp⟩⟩ := id J2
    go_wp2_with fail
    clear t0 t1 t2 t3 t4 t5 t6 t7 t8 t9 t10 t11 t12 t13 tl tm tb tn to tp
    have e1 := pg_in hk.2.1 hk.2.2.1 hk.2.2.2.1 hk.2.2.2.2.1
    have d7 : decide (pg b c d e < 15) = false := by simp; omega
    obtain ⟨N, hN, hM⟩ := norms _ _ J2
    have hne : Nonempty World := ⟨w⟩
    have q0 := fun n => (hN n).1.1.1
    have q1 := fun n => (hN n).1.1.2.1
    have q2 := fun n => (hN n).1.1.2.2.1
    have q3 := fun n => (hN n).1.1.2.2.2.1
    have q4 := fun n => (hN n).1.1.2.2.2.2.1
    have q5 := fun n => (hN n).1.1.2.2.2.2.2.1
    have q6 := fun n => (hN n).1.1.2.2.2.2.2.2
    have q7 := fun n => (hN n).2.1.1
    have q8 := fun n => (hN n).2.1.2.1
    have q9 := fun n => (hN n).2.1.2.2.1
    have q10 := fun n => (hN n).2.1.2.2.2.1
    have q11 := fun n => (hN n).2.1.2.2.2.2.1
    have q12 := fun n => (hN n).2.1.2.2.2.2.2.1
    have q13 := fun n => (hN n).2.1.2.2.2.2.2.2
    refine region_class N (by kernel_rfl) (by kernel_rfl) (hM _ J2.drew) ?_
    repeat (go_big_quiet_step (first | (go_at_call 12; refine call_class2 hN hM ((nums_ok _ _ _ _ _ _ _ ?_).2.1 _); (first | exact hk | exact hk')) | (go_at_call 14; refine call_class2 hN hM ((nums_ok _ _ _ _ _ _ _ ?_).2.2.1 _); (first | exact hk | exact hk'))))
    refine wpQuiet_nil ?_
    rintro _ ⟨n, rfl⟩
    have I9 := hN n
    generalize N n = w9 at I9 ⊢
    clear q0 q1 q2 q3 q4 q5 q6 q7 q8 q9 q10 q11 q12 q13 hM hN N n hne
    obtain ⟨⟨⟨t0, t1, t2, t3, t4, t5, t6⟩, tl, tm, tb⟩, ⟨⟨t7, t8, t9, t10, t11, t12, t13⟩, tn, to, tp⟩⟩ := id I9
    go_wp2_with fail
    go_ret
    exact ⟨rfl, tb⟩

set_option maxRecDepth 100000 in
set_option maxHeartbeats 1000000 in
theorem grows_more (a b c d e f h a' f' h' : Int) (w : World) (hk : ok a b c d e f h) (hk' : ok a' b c d e f' h') (hl : a ≤ a') (hl' : f ≤ f') :
    Calls Try.prog 7 #[.agg #[.int .i64 a, .int .i64 b, .int .i64 c, .int .i64 d, .int .i64 e, .int .i64 f, .int .i64 h], .int .i64 a', .int .i64 f', .int .i64 h'] w fun x w' => x = .returned (.bool true) ∧ Below w.heap.size w w' := by
  go_enter Try.func7, Try.ntmps7
  go_wp2_with fail
  refine (refRight_ok _ _ _ _ _ _ _ _ hk).mono ?_
  rintro x w1 ⟨rfl, hb1⟩
  have J1 := (In14.new w a b c d e f h a' f' h').next hb1
  clear hb1
  obtain ⟨⟨⟨t0, t1, t2, t3, t4, t5, t6⟩, tl, tm, tb⟩, ⟨⟨t7, t8, t9, t10, t11, t12, t13⟩, tn, to, tp⟩⟩ := id J1
  go_wp2_with fail
  refine (refRight_ok _ _ _ _ _ _ _ _ hk').mono ?_
  rintro x w2 ⟨rfl, hb2⟩
  have J2 := J1.next hb2
  clear hb2 J1
  clear t0 t1 t2 t3 t4 t5 t6 t7 t8 t9 t10 t11 t12 t13 tl tm tb tn to tp
  obtain ⟨⟨⟨t0, t1, t2, t3, t4, t5, t6⟩, tl, tm, tb⟩, ⟨⟨t7, t8, t9, t10, t11, t12, t13⟩, tn, to, tp⟩⟩ := id J2
  go_wp2_with fail
  clear t0 t1 t2 t3 t4 t5 t6 t7 t8 t9 t10 t11 t12 t13 tl tm tb tn to tp
  have e1 := pg_in hk.2.1 hk.2.2.1 hk.2.2.2.1 hk.2.2.2.2.1
  have d7 : decide (pg b c d e < 15) = false := by simp; omega
  obtain ⟨N, hN, hM⟩ := norms _ _ J2
  have hne : Nonempty World := ⟨w⟩
  have q0 := fun n => (hN n).1.1.1
  have q1 := fun n => (hN n).1.1.2.1
  have q2 := fun n => (hN n).1.1.2.2.1
  have q3 := fun n => (hN n).1.1.2.2.2.1
  have q4 := fun n => (hN n).1.1.2.2.2.2.1
  have q5 := fun n => (hN n).1.1.2.2.2.2.2.1
  have q6 := fun n => (hN n).1.1.2.2.2.2.2.2
  have q7 := fun n => (hN n).2.1.1
  have q8 := fun n => (hN n).2.1.2.1
  have q9 := fun n => (hN n).2.1.2.2.1
  have q10 := fun n => (hN n).2.1.2.2.2.1
  have q11 := fun n => (hN n).2.1.2.2.2.2.1
  have q12 := fun n => (hN n).2.1.2.2.2.2.2.1
  have q13 := fun n => (hN n).2.1.2.2.2.2.2.2
  refine region_class N (by kernel_rfl) (by kernel_rfl) (hM _ J2.drew) ?_
  repeat (go_big_quiet_step (first | (go_at_call 12; refine call_class2 hN hM ((nums_ok _ _ _ _ _ _ _ ?_).2.1 _); (first | exact hk | exact hk')) | (go_at_call 14; refine call_class2 hN hM ((nums_ok _ _ _ _ _ _ _ ?_).2.2.1 _); (first | exact hk | exact hk'))))
  refine wpQuiet_nil ?_
  rintro _ ⟨n, rfl⟩
  have I9 := hN n
  generalize N n = w9 at I9 ⊢
  clear q0 q1 q2 q3 q4 q5 q6 q7 q8 q9 q10 q11 q12 q13 hM hN N n hne
  obtain ⟨⟨⟨t0, t1, t2, t3, t4, t5, t6⟩, tl, tm, tb⟩, ⟨⟨t7, t8, t9, t10, t11, t12, t13⟩, tn, to, tp⟩⟩ := id I9
  have d0 : decide (a' < a) = false := by simp; omega
  have d9 : decide (f' < f) = false := by simp; omega
  go_wp2_with fail
  clear t0 t1 t2 t3 t4 t5 t6 t7 t8 t9 t10 t11 t12 t13 tl tm tb tn to tp
  have d1 : decide (lv a ≤ lv a') = true := decide_eq_true (lv_le hk.1 hk'.1 hl)
  have d2 : decide (lp a ≤ lp a') = true := decide_eq_true (lp_le hk.1 hk'.1 hl)
  have d3 : decide (lsv a ≤ lsv a') = true := decide_eq_true (lsv_le hk.1 hk'.1 hl)
  have d4 : decide (btv a f ≤ btv a' f') = true := decide_eq_true (btv_le hk.1 hk'.1 hl hk.2.2.2.2.2.1 hl')
  have d5 : decide (rsv a f ≤ rsv a' f') = true := decide_eq_true (rsv_le hk.1 hk'.1 hl hk.2.2.2.2.2.1 hl')
  have d6 : decide (sgv a f ≤ sgv a' f') = true := decide_eq_true (sgv_le hk.1 hk'.1 hl hk.2.2.2.2.2.1 hl')
  have J9 : In14 w a b c d e f h a' f' h' w9 := I9
  clear I9
  obtain ⟨N, hN, hM⟩ := norms _ _ J9
  have hne : Nonempty World := ⟨w⟩
  have q0 := fun n => (hN n).1.1.1
  have q1 := fun n => (hN n).1.1.2.1
  have q2 := fun n => (hN n).1.1.2.2.1
  have q3 := fun n => (hN n).1.1.2.2.2.1
  have q4 := fun n => (hN n).1.1.2.2.2.2.1
  have q5 := fun n => (hN n).1.1.2.2.2.2.2.1
  have q6 := fun n => (hN n).1.1.2.2.2.2.2.2
  have q7 := fun n => (hN n).2.1.1
  have q8 := fun n => (hN n).2.1.2.1
  have q9 := fun n => (hN n).2.1.2.2.1
  have q10 := fun n => (hN n).2.1.2.2.2.1
  have q11 := fun n => (hN n).2.1.2.2.2.2.1
  have q12 := fun n => (hN n).2.1.2.2.2.2.2.1
  have q13 := fun n => (hN n).2.1.2.2.2.2.2.2
  refine region_class N (by kernel_rfl) (by kernel_rfl) (hM _ J9.drew) ?_
  repeat (go_big_quiet_step (first | (go_at_call 10; refine call_class2 hN hM ((nums_ok _ _ _ _ _ _ _ ?_).1 _); (first | exact hk | exact hk')) | (go_at_call 16; refine call_class2 hN hM ((nums_ok _ _ _ _ _ _ _ ?_).2.2.2.1 _); (first | exact hk | exact hk')) | (go_at_call 18; refine call_class2 hN hM ((nums_ok _ _ _ _ _ _ _ ?_).2.2.2.2.1 _); (first | exact hk | exact hk')) | (go_at_call 22; refine call_class2 hN hM ((nums_ok _ _ _ _ _ _ _ ?_).2.2.2.2.2.2.1 _); (first | exact hk | exact hk')) | (go_at_call 24; refine call_class2 hN hM ((nums_ok _ _ _ _ _ _ _ ?_).2.2.2.2.2.2.2.1 _); (first | exact hk | exact hk')) | (go_at_call 26; refine call_class2 hN hM ((nums_ok _ _ _ _ _ _ _ ?_).2.2.2.2.2.2.2.2 _); (first | exact hk | exact hk'))))
  refine wpQuiet_nil ?_
  rintro _ ⟨n, rfl⟩
  have I9 := hN n
  generalize N n = w9 at I9 ⊢
  clear q0 q1 q2 q3 q4 q5 q6 q7 q8 q9 q10 q11 q12 q13 hM hN N n hne
  go_wp2_with fail
  go_ret
  exact ⟨rfl, I9.1.2.2.2⟩

theorem law_grows (a b c d e f h a' f' h' : Int) (w : World) :
    Calls Try.prog 7 #[.agg #[.int .i64 a, .int .i64 b, .int .i64 c, .int .i64 d, .int .i64 e, .int .i64 f, .int .i64 h], .int .i64 a', .int .i64 f', .int .i64 h'] w fun x w' => x = .returned (.bool true) ∧ Below w.heap.size w w' := by
  by_cases hk : ok a b c d e f h
  · by_cases hk' : ok a' b c d e f' h'
    · by_cases h1 : a ≤ a'
      · by_cases h2 : f ≤ f'
        · exact grows_more a b c d e f h a' f' h' w hk hk' h1 h2
        · exact grows_less a b c d e f h a' f' h' w hk hk' (by omega)
      · exact grows_less a b c d e f h a' f' h' w hk hk' (by omega)
    · exact grows_no2 a b c d e f h a' f' h' w hk hk'
  · exact grows_no a b c d e f h a' f' h' w hk

end Go.Proofs.Ytdgpbmbkhgjpkaa.quotas
