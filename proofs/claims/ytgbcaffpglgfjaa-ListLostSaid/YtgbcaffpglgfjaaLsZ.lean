/- The walk of ListLost. -/
import Derived.Test.YtgbcaffpglgfjaaLsA
import Derived.Test.YtgbcaffpglgfjaaTrZ


namespace Go.Proofs.Ytgbcaffpglgfjaa.trees
set_option linter.unusedVariables false
set_option linter.unusedSimpArgs false
open Go.RowKit Go.Proofs.Ytgbcaffpglgfjaa.base Go.Proofs.Ytgbcaffpglgfjaa.vers Go.Proofs.Ytgbcaffpglgfjaa.nodes Go.Proofs.Ytgbcaffpglgfjaa.quotas

/-- the quota, the root that is asked, a heap without pages -/
def LL (w : World) (h : Nat) (q r : Array Value) (wr : World) : Prop :=
  Hp wr h (fun g => g = h) [] ∧ Blk wr w.heap.size 97 q ∧ Blk wr (w.heap.size + 1) 27 r ∧ Below w.heap.size w wr
theorem LL.next {w : World} {h : Nat} {q r : Array Value} {wr w' : World} (hL : LL w h q r wr) (hb : Below wr.heap.size wr w') : LL w h q r w' := by
  obtain ⟨h1, h2, h3, h4⟩ := hL
  exact ⟨h1.below hb, h2.below hb h2.lt, h3.below hb h3.lt, h4.trans (hb.mono h4.size)⟩

set_option maxRecDepth 100000 in
set_option maxHeartbeats 2000000 in
theorem shape_eql (u : World) : (binOp .eql 100 (.agg #[.int .i64 0, .int .i64 0, .int .i64 0, .int .i64 0]) (.agg #[.int .i64 0, .int .i64 0, .int .i64 0, .int .i64 0])).run Try.prog u = .ok (.bool true) u := by
  go_simp

set_option maxRecDepth 100000 in
set_option maxHeartbeats 2000000 in
theorem law_listLost (q00 q01 q02 q03 q04 q05 q06 : Int) (rk : Nat) (rg ro rn : Int) (s : ByteArray) (n : Int) (w : World) (hr : (⟨rk, rg, ro, rn⟩ : R).fits) :
    Calls Try.prog 13 #[.agg #[.int .i64 q00, .int .i64 q01, .int .i64 q02, .int .i64 q03, .int .i64 q04, .int .i64 q05, .int .i64 q06], .agg #[.int .u64 (rk : Int), .int .i64 rg, .int .i64 ro, .int .i64 rn], .string s, .int .i64 n] w fun e w' => e = .returned (.bool true) ∧ Below w.heap.size w w' := by
  have kQ := (Blk.new w 97 #[.int .i64 q00, .int .i64 q01, .int .i64 q02, .int .i64 q03, .int .i64 q04, .int .i64 q05, .int .i64 q06]).alloc (.cells #[.int .u64 (rk : Int), .int .i64 rg, .int .i64 ro, .int .i64 rn] 27)
  have kR := Blk.new (w.alloc (.cells #[.int .i64 q00, .int .i64 q01, .int .i64 q02, .int .i64 q03, .int .i64 q04, .int .i64 q05, .int .i64 q06] 97)) 27 #[.int .u64 (rk : Int), .int .i64 rg, .int .i64 ro, .int .i64 rn]
  have b0 : Below w.heap.size w ((w.alloc (.cells #[.int .i64 q00, .int .i64 q01, .int .i64 q02, .int .i64 q03, .int .i64 q04, .int .i64 q05, .int .i64 q06] 97)).alloc (.cells #[.int .u64 (rk : Int), .int .i64 rg, .int .i64 ro, .int .i64 rn] 27)) := ((Below.refl _ _).alloc (Nat.le_refl _) _).alloc (by simp) _
  have qz := shape_eql
  rw [World.size_alloc] at kR
  go_enter Try.func13, Try.ntmps13
  go_wp2_with fail
  refine (newHeap_any _).mono ?_
  rintro e w1 ⟨h, rfl, hh1, hH1, hb1⟩
  have T0 : LL w h #[.int .i64 q00, .int .i64 q01, .int .i64 q02, .int .i64 q03, .int .i64 q04, .int .i64 q05, .int .i64 q06] #[.int .u64 (rk : Int), .int .i64 rg, .int .i64 ro, .int .i64 rn] w1 := ⟨hH1, kQ.below hb1 kQ.lt, kR.below hb1 kR.lt, b0.trans (hb1.mono b0.size)⟩
  clear hH1 hb1 kQ kR b0
  have x0 := T0.2.1.cell 0
  have x1 := T0.2.1.cell 1
  have x2 := T0.2.1.cell 2
  have x3 := T0.2.1.cell 3
  have x4 := T0.2.1.cell 4
  have x5 := T0.2.1.cell 5
  have x6 := T0.2.1.cell 6
  have v0 := T0.2.2.1.cell 0
  have v1 := T0.2.2.1.cell 1
  have v2 := T0.2.2.1.cell 2
  have v3 := T0.2.2.1.cell 3
  simp at x0 x1 x2 x3 x4 x5 x6 v0 v1 v2 v3
  have lq := T0.2.1.lt
  have lr := T0.2.2.1.lt
  by_cases hq : ok q00 q01 q02 q03 q04 q05 q06
  · go_wp2_with fail
    have T1 := T0.next ((Below.refl _ _).alloc (Nat.le_refl _) (.cells #[.string s] 9))
    generalize w1.alloc (.cells #[.string s] 9) = w2 at T1 ⊢
    refine (names_bad h _ [] ⟨rk, rg, ro, rn⟩ _ _ _ 71 (none_bad ⟨rk, rg, ro, rn⟩) _ T1.1 hr).mono ?_
    rintro e w3 ⟨rfl, hb3⟩
    have T2 := T1.next hb3
    clear x0 x1 x2 x3 x4 x5 x6 v0 v1 v2 v3 lq lr
    have x0 := T2.2.1.cell 0
    have x1 := T2.2.1.cell 1
    have x2 := T2.2.1.cell 2
    have x3 := T2.2.1.cell 3
    have x4 := T2.2.1.cell 4
    have x5 := T2.2.1.cell 5
    have x6 := T2.2.1.cell 6
    have v0 := T2.2.2.1.cell 0
    have v1 := T2.2.2.1.cell 1
    have v2 := T2.2.2.1.cell 2
    have v3 := T2.2.2.1.cell 3
    simp at x0 x1 x2 x3 x4 x5 x6 v0 v1 v2 v3
    have lq := T2.2.1.lt
    have lr := T2.2.2.1.lt
    go_wp2_with fail
    refine (range_bad h _ [] ⟨rk, rg, ro, rn⟩ _ _ 71 (none_bad ⟨rk, rg, ro, rn⟩) _ T2.1 hr).mono ?_
    rintro e w4 ⟨rfl, hb4⟩
    have T3 := T2.next hb4
    clear x0 x1 x2 x3 x4 x5 x6 v0 v1 v2 v3 lq lr
    have x0 := T3.2.1.cell 0
    have x1 := T3.2.1.cell 1
    have x2 := T3.2.1.cell 2
    have x3 := T3.2.1.cell 3
    have x4 := T3.2.1.cell 4
    have x5 := T3.2.1.cell 5
    have x6 := T3.2.1.cell 6
    have v0 := T3.2.2.1.cell 0
    have v1 := T3.2.2.1.cell 1
    have v2 := T3.2.2.1.cell 2
    have v3 := T3.2.2.1.cell 3
    simp at x0 x1 x2 x3 x4 x5 x6 v0 v1 v2 v3
    have lq := T3.2.1.lt
    have lr := T3.2.2.1.lt
    go_wp2_with fail
    refine (count_bad h _ [] ⟨rk, rg, ro, rn⟩ 71 (none_bad ⟨rk, rg, ro, rn⟩) _ T3.1 hr).mono ?_
    rintro e w5 ⟨rfl, hb5⟩
    have T4 := T3.next hb5
    clear x0 x1 x2 x3 x4 x5 x6 v0 v1 v2 v3 lq lr
    have x0 := T4.2.1.cell 0
    have x1 := T4.2.1.cell 1
    have x2 := T4.2.1.cell 2
    have x3 := T4.2.1.cell 3
    have x4 := T4.2.1.cell 4
    have x5 := T4.2.1.cell 5
    have x6 := T4.2.1.cell 6
    have v0 := T4.2.2.1.cell 0
    have v1 := T4.2.2.1.cell 1
    have v2 := T4.2.2.1.cell 2
    have v3 := T4.2.2.1.cell 3
    simp at x0 x1 x2 x3 x4 x5 x6 v0 v1 v2 v3
    have lq := T4.2.1.lt
    have lr := T4.2.2.1.lt
    go_wp2_with fail
    refine (nth_bad h _ [] ⟨rk, rg, ro, rn⟩ _ 71 (none_bad ⟨rk, rg, ro, rn⟩) _ T4.1 hr).mono ?_
    rintro e w6 ⟨rfl, hb6⟩
    have T5 := T4.next hb6
    clear x0 x1 x2 x3 x4 x5 x6 v0 v1 v2 v3 lq lr
    have x0 := T5.2.1.cell 0
    have x1 := T5.2.1.cell 1
    have x2 := T5.2.1.cell 2
    have x3 := T5.2.1.cell 3
    have x4 := T5.2.1.cell 4
    have x5 := T5.2.1.cell 5
    have x6 := T5.2.1.cell 6
    have v0 := T5.2.2.1.cell 0
    have v1 := T5.2.2.1.cell 1
    have v2 := T5.2.2.1.cell 2
    have v3 := T5.2.2.1.cell 3
    simp at x0 x1 x2 x3 x4 x5 x6 v0 v1 v2 v3
    have lq := T5.2.1.lt
    have lr := T5.2.2.1.lt
    go_wp2_with fail
    have T6 := T5.next ((Below.refl _ _).alloc (Nat.le_refl _) (.cells #[.string ⟨#[]⟩, .slice none 0 0] 47))
    generalize w6.alloc (.cells #[.string ⟨#[]⟩, .slice none 0 0] 47) = w7 at T6 ⊢
    refine (floor_bad h _ [] ⟨rk, rg, ro, rn⟩ _ 71 (none_bad ⟨rk, rg, ro, rn⟩) _ T6.1 hr).mono ?_
    rintro e w8 ⟨rfl, hb8⟩
    have T8 := T6.next hb8
    clear x0 x1 x2 x3 x4 x5 x6 v0 v1 v2 v3 lq lr
    have x0 := T8.2.1.cell 0
    have x1 := T8.2.1.cell 1
    have x2 := T8.2.1.cell 2
    have x3 := T8.2.1.cell 3
    have x4 := T8.2.1.cell 4
    have x5 := T8.2.1.cell 5
    have x6 := T8.2.1.cell 6
    have v0 := T8.2.2.1.cell 0
    have v1 := T8.2.2.1.cell 1
    have v2 := T8.2.2.1.cell 2
    have v3 := T8.2.2.1.cell 3
    simp at x0 x1 x2 x3 x4 x5 x6 v0 v1 v2 v3
    have lq := T8.2.1.lt
    have lr := T8.2.2.1.lt
    go_wp2_with fail
    have T9 := T8.next ((Below.refl _ _).alloc (Nat.le_refl _) (.cells #[.string ⟨#[]⟩, .slice none 0 0] 47))
    generalize w8.alloc (.cells #[.string ⟨#[]⟩, .slice none 0 0] 47) = w9 at T9 ⊢
    refine (shape_bad h _ [] ⟨rk, rg, ro, rn⟩ q00 q01 q02 q03 q04 q05 q06 71 (none_bad ⟨rk, rg, ro, rn⟩) _ T9.1 hr hq).mono ?_
    rintro e wA ⟨rfl, hbA⟩
    have TA := T9.next hbA
    clear x0 x1 x2 x3 x4 x5 x6 v0 v1 v2 v3 lq lr
    have x0 := TA.2.1.cell 0
    have x1 := TA.2.1.cell 1
    have x2 := TA.2.1.cell 2
    have x3 := TA.2.1.cell 3
    have x4 := TA.2.1.cell 4
    have x5 := TA.2.1.cell 5
    have x6 := TA.2.1.cell 6
    have v0 := TA.2.2.1.cell 0
    have v1 := TA.2.2.1.cell 1
    have v2 := TA.2.2.1.cell 2
    have v3 := TA.2.2.1.cell 3
    simp at x0 x1 x2 x3 x4 x5 x6 v0 v1 v2 v3
    have lq := TA.2.1.lt
    have lr := TA.2.2.1.lt
    go_wp2_with fail
    have TB := TA.next ((Below.refl _ _).alloc (Nat.le_refl _) (.cells #[.int .i64 0, .int .i64 0, .int .i64 0, .int .i64 0] 100))
    have ks := Blk.new wA 100 #[.int .i64 0, .int .i64 0, .int .i64 0, .int .i64 0]
    generalize wA.alloc (.cells #[.int .i64 0, .int .i64 0, .int .i64 0, .int .i64 0] 100) = wB at TB ks ⊢
    refine (right_ok q00 q01 q02 q03 q04 q05 q06 _ hq).mono ?_
    rintro e wC ⟨rfl, hbC⟩
    have TC := TB.next hbC
    have ks := ks.below hbC ks.lt
    have s0 := ks.cell 0
    have s1 := ks.cell 1
    have s2 := ks.cell 2
    have s3 := ks.cell 3
    simp at s0 s1 s2 s3
    clear ks
    go_wp2_with fail
    go_ret
    exact ⟨rfl, TC.2.2.2⟩
  · go_wp2_with fail
    have T1 := T0.next ((Below.refl _ _).alloc (Nat.le_refl _) (.cells #[.string s] 9))
    generalize w1.alloc (.cells #[.string s] 9) = w2 at T1 ⊢
    refine (names_bad h _ [] ⟨rk, rg, ro, rn⟩ _ _ _ 71 (none_bad ⟨rk, rg, ro, rn⟩) _ T1.1 hr).mono ?_
    rintro e w3 ⟨rfl, hb3⟩
    have T2 := T1.next hb3
    clear x0 x1 x2 x3 x4 x5 x6 v0 v1 v2 v3 lq lr
    have x0 := T2.2.1.cell 0
    have x1 := T2.2.1.cell 1
    have x2 := T2.2.1.cell 2
    have x3 := T2.2.1.cell 3
    have x4 := T2.2.1.cell 4
    have x5 := T2.2.1.cell 5
    have x6 := T2.2.1.cell 6
    have v0 := T2.2.2.1.cell 0
    have v1 := T2.2.2.1.cell 1
    have v2 := T2.2.2.1.cell 2
    have v3 := T2.2.2.1.cell 3
    simp at x0 x1 x2 x3 x4 x5 x6 v0 v1 v2 v3
    have lq := T2.2.1.lt
    have lr := T2.2.2.1.lt
    go_wp2_with fail
    refine (range_bad h _ [] ⟨rk, rg, ro, rn⟩ _ _ 71 (none_bad ⟨rk, rg, ro, rn⟩) _ T2.1 hr).mono ?_
    rintro e w4 ⟨rfl, hb4⟩
    have T3 := T2.next hb4
    clear x0 x1 x2 x3 x4 x5 x6 v0 v1 v2 v3 lq lr
    have x0 := T3.2.1.cell 0
    have x1 := T3.2.1.cell 1
    have x2 := T3.2.1.cell 2
    have x3 := T3.2.1.cell 3
    have x4 := T3.2.1.cell 4
    have x5 := T3.2.1.cell 5
    have x6 := T3.2.1.cell 6
    have v0 := T3.2.2.1.cell 0
    have v1 := T3.2.2.1.cell 1
    have v2 := T3.2.2.1.cell 2
    have v3 := T3.2.2.1.cell 3
    simp at x0 x1 x2 x3 x4 x5 x6 v0 v1 v2 v3
    have lq := T3.2.1.lt
    have lr := T3.2.2.1.lt
    go_wp2_with fail
    refine (count_bad h _ [] ⟨rk, rg, ro, rn⟩ 71 (none_bad ⟨rk, rg, ro, rn⟩) _ T3.1 hr).mono ?_
    rintro e w5 ⟨rfl, hb5⟩
    have T4 := T3.next hb5
    clear x0 x1 x2 x3 x4 x5 x6 v0 v1 v2 v3 lq lr
    have x0 := T4.2.1.cell 0
    have x1 := T4.2.1.cell 1
    have x2 := T4.2.1.cell 2
    have x3 := T4.2.1.cell 3
    have x4 := T4.2.1.cell 4
    have x5 := T4.2.1.cell 5
    have x6 := T4.2.1.cell 6
    have v0 := T4.2.2.1.cell 0
    have v1 := T4.2.2.1.cell 1
    have v2 := T4.2.2.1.cell 2
    have v3 := T4.2.2.1.cell 3
    simp at x0 x1 x2 x3 x4 x5 x6 v0 v1 v2 v3
    have lq := T4.2.1.lt
    have lr := T4.2.2.1.lt
    go_wp2_with fail
    refine (nth_bad h _ [] ⟨rk, rg, ro, rn⟩ _ 71 (none_bad ⟨rk, rg, ro, rn⟩) _ T4.1 hr).mono ?_
    rintro e w6 ⟨rfl, hb6⟩
    have T5 := T4.next hb6
    clear x0 x1 x2 x3 x4 x5 x6 v0 v1 v2 v3 lq lr
    have x0 := T5.2.1.cell 0
    have x1 := T5.2.1.cell 1
    have x2 := T5.2.1.cell 2
    have x3 := T5.2.1.cell 3
    have x4 := T5.2.1.cell 4
    have x5 := T5.2.1.cell 5
    have x6 := T5.2.1.cell 6
    have v0 := T5.2.2.1.cell 0
    have v1 := T5.2.2.1.cell 1
    have v2 := T5.2.2.1.cell 2
    have v3 := T5.2.2.1.cell 3
    simp at x0 x1 x2 x3 x4 x5 x6 v0 v1 v2 v3
    have lq := T5.2.1.lt
    have lr := T5.2.2.1.lt
    go_wp2_with fail
    have T6 := T5.next ((Below.refl _ _).alloc (Nat.le_refl _) (.cells #[.string ⟨#[]⟩, .slice none 0 0] 47))
    generalize w6.alloc (.cells #[.string ⟨#[]⟩, .slice none 0 0] 47) = w7 at T6 ⊢
    refine (floor_bad h _ [] ⟨rk, rg, ro, rn⟩ _ 71 (none_bad ⟨rk, rg, ro, rn⟩) _ T6.1 hr).mono ?_
    rintro e w8 ⟨rfl, hb8⟩
    have T8 := T6.next hb8
    clear x0 x1 x2 x3 x4 x5 x6 v0 v1 v2 v3 lq lr
    have x0 := T8.2.1.cell 0
    have x1 := T8.2.1.cell 1
    have x2 := T8.2.1.cell 2
    have x3 := T8.2.1.cell 3
    have x4 := T8.2.1.cell 4
    have x5 := T8.2.1.cell 5
    have x6 := T8.2.1.cell 6
    have v0 := T8.2.2.1.cell 0
    have v1 := T8.2.2.1.cell 1
    have v2 := T8.2.2.1.cell 2
    have v3 := T8.2.2.1.cell 3
    simp at x0 x1 x2 x3 x4 x5 x6 v0 v1 v2 v3
    have lq := T8.2.1.lt
    have lr := T8.2.2.1.lt
    go_wp2_with fail
    have T9 := T8.next ((Below.refl _ _).alloc (Nat.le_refl _) (.cells #[.string ⟨#[]⟩, .slice none 0 0] 47))
    generalize w8.alloc (.cells #[.string ⟨#[]⟩, .slice none 0 0] 47) = w9 at T9 ⊢
    refine (shape_no h _ [] ⟨rk, rg, ro, rn⟩ q00 q01 q02 q03 q04 q05 q06 71 (none_bad ⟨rk, rg, ro, rn⟩) _ T9.1 hr hq).mono ?_
    rintro e wA ⟨rfl, hbA⟩
    have TA := T9.next hbA
    clear x0 x1 x2 x3 x4 x5 x6 v0 v1 v2 v3 lq lr
    have x0 := TA.2.1.cell 0
    have x1 := TA.2.1.cell 1
    have x2 := TA.2.1.cell 2
    have x3 := TA.2.1.cell 3
    have x4 := TA.2.1.cell 4
    have x5 := TA.2.1.cell 5
    have x6 := TA.2.1.cell 6
    have v0 := TA.2.2.1.cell 0
    have v1 := TA.2.2.1.cell 1
    have v2 := TA.2.2.1.cell 2
    have v3 := TA.2.2.1.cell 3
    simp at x0 x1 x2 x3 x4 x5 x6 v0 v1 v2 v3
    have lq := TA.2.1.lt
    have lr := TA.2.2.1.lt
    go_wp2_with fail
    have TB := TA.next ((Below.refl _ _).alloc (Nat.le_refl _) (.cells #[.int .i64 0, .int .i64 0, .int .i64 0, .int .i64 0] 100))
    have ks := Blk.new wA 100 #[.int .i64 0, .int .i64 0, .int .i64 0, .int .i64 0]
    generalize wA.alloc (.cells #[.int .i64 0, .int .i64 0, .int .i64 0, .int .i64 0] 100) = wB at TB ks ⊢
    refine (right_no q00 q01 q02 q03 q04 q05 q06 _ hq).mono ?_
    rintro e wC ⟨rfl, hbC⟩
    have TC := TB.next hbC
    have ks := ks.below hbC ks.lt
    have s0 := ks.cell 0
    have s1 := ks.cell 1
    have s2 := ks.cell 2
    have s3 := ks.cell 3
    simp at s0 s1 s2 s3
    clear ks
    go_wp2_with fail
    go_ret
    exact ⟨rfl, TC.2.2.2⟩

end Go.Proofs.Ytgbcaffpglgfjaa.trees
