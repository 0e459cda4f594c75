/- told, pick, step, awake of the laws. -/
import Derived.Test.YtchghlbiongccaaPwB
import Derived.BigQuiet
import Derived.Deep.QuietTactic


namespace Go.Proofs.Ytchghlbiongccaa.powers
set_option linter.unusedVariables false
set_option linter.unusedSimpArgs false
open Go.RowKit Go.Proofs.Ytchghlbiongccaa.base
theorem norms (S : World → Prop) (w : World) (h : S w) : ∃ N : World → World, (∀ n, S (N n)) ∧ ∀ w', S w' → ∃ n, w' = N n := by
  refine ⟨fun n => @ite _ (S n) (Classical.propDecidable _) n w, fun n => ?_, fun w' hw => ⟨w', ?_⟩⟩
  · by_cases hn : S n
    · simp [hn]
    · simpa [hn] using h
  · simp [hw]
theorem region_class {P : Program} {id : Nat} {Q : Exit → Act → World → Prop} {a : Act} {w : World} {l : List Oper} (N : World → World) (hm : P.follows .mixedOrders = true) (hB : Region.lexB .any l.toArray = true) (hC : ∃ n, w.drew = N n)
    (h : wpQuiet P l.toArray (fun w' => ∃ n, w' = N n) (fun a' => ∀ w', (∃ n, w' = N n) → Q .normal a' w') l a) : (Code.region id l.toArray true).wp P Q a w :=
  wp_region_quiet (C := fun w' => ∃ n, w' = N n) hm hB hC (by simpa using h)
theorem call_same {P : Program} {f : FuncId} {args : Array Value} {v : Value} {N : World → World} {n : World}
    (hc : Calls P f args (N n) fun e w' => e = .returned v ∧ w' = N n) : Calls P f args (N n) fun e w'' => e = .returned v ∧ ∃ m, w'' = N m :=
  hc.mono fun _ _ ⟨he, hb⟩ => ⟨he, n, hb⟩
def none_ (_ : Nat) : Prop := False
theorem St.drew {S : Nat → Prop} {a w : World} (h : St S a w) : St S a w.drew := ⟨h.os, h.tape, h.output, h.size, h.block⟩
variable {g d : Nat} {L W M V : Int} {w : World}

set_option maxRecDepth 100000 in
set_option maxHeartbeats 4000000 in
theorem told_ok (hp : Blk w g 119 (PC L W)) (hd : Blk w d 121 (DC (bL L) (aL L) W)) (hI : In L) :
    Calls Try.prog 19 #[.pointer (some ⟨g, 0, none⟩), .pointer (some ⟨d, 0, none⟩)] w fun e w' => e = .returned (.bool true) ∧ St none_ w w' := by
  obtain ⟨N, hN, hM⟩ := norms (fun wx => St none_ w wx) w (St.refl _ _)
  have hne : Nonempty World := ⟨w⟩
  have kp := fun n => (hN n).blk hp (fun h => h)
  have kd := fun n => (hN n).blk hd (fun h => h)
  have h1 := fun n => on_ok (kp n)
  have h2 := fun n => left_ok (kp n) hI
  have h3 := fun n => refLeft_ok (kd n) hI
  have h4 := fun n => writes_ok (kp n) hI
  have q0 := fun n => (kd n).cell 0
  have q1 := fun n => (kd n).cell 1
  have q2 := fun n => (kd n).cell 2
  simp only [List.getElem?_toArray, List.getElem?_cons_zero, List.getElem?_cons_succ] at q0 q1 q2
  generalize bL L = b at h1 q0
  go_enter Try.func19, Try.ntmps19
  go_wp2_with fail
  refine region_class N (by kernel_rfl) (by kernel_rfl) (hM _ (St.refl _ w).drew) ?_
  repeat (go_big_quiet_step (first | (go_at_call 24; exact call_same (h1 _)) | (go_at_call 25; exact call_same (h2 _)) | (go_at_call 65; exact call_same (h3 _)) | (go_at_call 21; exact call_same (h4 _))))
  refine wpQuiet_nil ?_
  rintro _ ⟨n, rfl⟩
  have I9 := hN n
  generalize N n = w9 at I9 ⊢
  clear q0 q1 q2 h1 h2 h3 h4 hM kp kd hN N n hne
  go_wp2_with fail
  go_ret
  exact ⟨by simp, I9⟩

def pk (c : Int) (n : Nat) : Nat := (if Int.tmod c n < 0 then Int.tmod c n + n else Int.tmod c n).toNat
theorem pk_lt (c : Int) (n : Nat) (hn : 0 < n) : pk c n < n := by
  have l2 : Int.tmod c n < (n : Int) := Int.tmod_lt_of_pos c (by omega)
  unfold pk
  split <;> omega

set_option maxRecDepth 100000 in
set_option maxHeartbeats 4000000 in
theorem pick_ok (c : Int) (n : Nat) (hn : 0 < n) (hn3 : n ≤ 3000) (w : World) :
    Calls Try.prog 22 #[.int .i64 c, .int .i64 (n : Int)] w fun e w' => e = .returned (.int .i64 (pk c n : Int)) ∧ w' = w := by
  have hz : (n : Int) ≠ 0 := by omega
  have l1 : -(n : Int) < Int.tmod c n := Int.lt_tmod_of_pos c (by omega)
  have l2 : Int.tmod c n < (n : Int) := Int.tmod_lt_of_pos c (by omega)
  by_cases h : Int.tmod c n < 0
  · have hm := lay (show (pk c n : Int) = Int.tmod c n + n by unfold pk; rw [if_pos h]; omega)
    go_enter Try.func22, Try.ntmps22
    go_wp2_with fail
    go_ret
    exact ⟨by rw [hm.out]; rfl, rfl⟩
  · have hm := lay (show (pk c n : Int) = Int.tmod c n by unfold pk; rw [if_neg h]; omega)
    go_enter Try.func22, Try.ntmps22
    go_wp2_with fail
    go_ret
    exact ⟨by rw [hm.out]; rfl, rfl⟩

def WR (W : Int) : Prop := -9223372036854775808 ≤ W ∧ W ≤ 9223372036854775807
theorem wr_nx (W : Int) : WR (nx W) := by unfold WR nx wrap64; omega
theorem wr_sp {L W : Int} (h : WR W) : WR (wSp L W) := by unfold wSp; split; exact h; exact wr_nx W
def two (g d k : Nat) : Prop := k = g ∨ k = d
/-- where a power and the document's stand behind a step -/
def StepP (g d : Nat) (L W M V : Int) (w : World) (e : Ending) (w' : World) : Prop :=
  ∃ b L' W' M' V', e = .returned (.bool b) ∧ Blk w' g 119 (PC L' W') ∧ Blk w' d 121 (DC (bL M') (aL M') V') ∧ In L' ∧ In M' ∧ (L = M → W = V → b = true ∧ L' = M' ∧ W' = V') ∧ (WR W → WR W') ∧ St (two g d) w w'

set_option maxRecDepth 100000 in
set_option maxHeartbeats 4000000 in
theorem step_none (k : Int) (h1 : k ≠ 1) (h2 : k ≠ 2) (h3 : k ≠ 3) (h4 : k ≠ 4) (n : Int) (on : Bool) (hp : Blk w g 119 (PC L W)) (hd : Blk w d 121 (DC (bL M) (aL M) V)) (hI : In L) (hJ : In M) (hgd : g ≠ d) :
    Calls Try.prog 18 #[.pointer (some ⟨g, 0, none⟩), .pointer (some ⟨d, 0, none⟩), .agg #[.int .i64 k, .int .i64 n, .bool on]] w (StepP g d L W M V w) := by
  have lg := hp.lt
  have ld := hd.lt
  have bZ : Below w.heap.size w (w.alloc (.cells #[.int .i64 k, .int .i64 n, .bool on] 29)) := (Below.refl _ _).alloc (Nat.le_refl _) _
  have kZ := Blk.new w 29 #[.int .i64 k, .int .i64 n, .bool on]
  have hpZ := hp.below bZ lg
  have hdZ := hd.below bZ ld
  have sZ : St (two g d) w _ := St.of_below bZ
  have zZ := bZ.size
  generalize hWZ : w.alloc (.cells #[.int .i64 k, .int .i64 n, .bool on] 29) = WZ at *
  have y0 := kZ.cell 0
  have y1 := kZ.cell 1
  simp only [List.getElem?_toArray, List.getElem?_cons_zero, List.getElem?_cons_succ] at y0 y1
  have lZ := kZ.lt
  have hgZ : w.heap.size ≠ g := by omega
  have hdZ' : w.heap.size ≠ d := by omega
  clear hp hd
  have d1 : decide (k = 1) = false := by simp [h1]
  have d2 : decide (k = 2) = false := by simp [h2]
  have d3 : decide (k = 3) = false := by simp [h3]
  have d4 : decide (k = 4) = false := by simp [h4]
  go_enter Try.func18, Try.ntmps18
  go_wp2_with fail
  go_ret
  exact ⟨true, L, W, M, V, rfl, hpZ, hdZ, hI, hJ, fun h1 h2 => ⟨rfl, h1, h2⟩, id, sZ⟩

set_option maxRecDepth 100000 in
set_option maxHeartbeats 4000000 in
theorem step_cut (n : Int) (on : Bool) (hp : Blk w g 119 (PC L W)) (hd : Blk w d 121 (DC (bL M) (aL M) V)) (hI : In L) (hJ : In M) (hgd : g ≠ d) :
    Calls Try.prog 18 #[.pointer (some ⟨g, 0, none⟩), .pointer (some ⟨d, 0, none⟩), .agg #[.int .i64 1, .int .i64 n, .bool on]] w (StepP g d L W M V w) := by
  have lg := hp.lt
  have ld := hd.lt
  have bZ : Below w.heap.size w (w.alloc (.cells #[.int .i64 1, .int .i64 n, .bool on] 29)) := (Below.refl _ _).alloc (Nat.le_refl _) _
  have kZ := Blk.new w 29 #[.int .i64 1, .int .i64 n, .bool on]
  have hpZ := hp.below bZ lg
  have hdZ := hd.below bZ ld
  have sZ : St (two g d) w _ := St.of_below bZ
  have zZ := bZ.size
  generalize hWZ : w.alloc (.cells #[.int .i64 1, .int .i64 n, .bool on] 29) = WZ at *
  have y0 := kZ.cell 0
  have y1 := kZ.cell 1
  simp only [List.getElem?_toArray, List.getElem?_cons_zero, List.getElem?_cons_succ] at y0 y1
  have lZ := kZ.lt
  have hgZ : w.heap.size ≠ g := by omega
  have hdZ' : w.heap.size ≠ d := by omega
  clear hp hd
  have hc1 := cut_ok n hpZ hI
  go_enter Try.func18, Try.ntmps18
  go_wp2_with fail
  refine hc1.mono ?_
  rintro e w1 ⟨rfl, kp1, s1⟩
  have hd1 := s1.blk hdZ (fun h => hgd h.symm)
  have kZ1 := s1.blk kZ hgZ
  clear kZ y0 y1
  have z1 := s1.size
  have y0 := kZ1.cell 0
  have y1 := kZ1.cell 1
  simp only [List.getElem?_toArray, List.getElem?_cons_zero, List.getElem?_cons_succ] at y0 y1
  have hc2 := refCut_ok n hd1 hJ
  go_wp2_with fail
  refine hc2.mono ?_
  rintro e w2 ⟨rfl, kd2, s2⟩
  have kp2 := s2.blk kp1 hgd
  go_wp2_with fail
  go_ret
  exact ⟨_, _, _, _, _, rfl, kp2, kd2, in_cut L n, in_cut M n, fun h1 h2 => ⟨rfl, by rw [h1], h2⟩, id, (sZ.trans (s1.mono fun k h => .inl h)).trans (s2.mono fun k h => .inr h)⟩

set_option maxRecDepth 100000 in
set_option maxHeartbeats 4000000 in
theorem step_restore (n : Int) (on : Bool) (hp : Blk w g 119 (PC L W)) (hd : Blk w d 121 (DC (bL M) (aL M) V)) (hI : In L) (hJ : In M) (hgd : g ≠ d) :
    Calls Try.prog 18 #[.pointer (some ⟨g, 0, none⟩), .pointer (some ⟨d, 0, none⟩), .agg #[.int .i64 2, .int .i64 n, .bool on]] w (StepP g d L W M V w) := by
  have lg := hp.lt
  have ld := hd.lt
  have bZ : Below w.heap.size w (w.alloc (.cells #[.int .i64 2, .int .i64 n, .bool on] 29)) := (Below.refl _ _).alloc (Nat.le_refl _) _
  have kZ := Blk.new w 29 #[.int .i64 2, .int .i64 n, .bool on]
  have hpZ := hp.below bZ lg
  have hdZ := hd.below bZ ld
  have sZ : St (two g d) w _ := St.of_below bZ
  have zZ := bZ.size
  generalize hWZ : w.alloc (.cells #[.int .i64 2, .int .i64 n, .bool on] 29) = WZ at *
  have y0 := kZ.cell 0
  have y1 := kZ.cell 1
  simp only [List.getElem?_toArray, List.getElem?_cons_zero, List.getElem?_cons_succ] at y0 y1
  have lZ := kZ.lt
  have hgZ : w.heap.size ≠ g := by omega
  have hdZ' : w.heap.size ≠ d := by omega
  clear hp hd
  have hc1 := restore_ok hpZ
  go_enter Try.func18, Try.ntmps18
  go_wp2_with fail
  refine hc1.mono ?_
  rintro e w1 ⟨rfl, kp1, s1⟩
  have hd1 := s1.blk hdZ (fun h => hgd h.symm)
  have kZ1 := s1.blk kZ hgZ
  clear kZ y0 y1
  have z1 := s1.size
  have y0 := kZ1.cell 0
  have y1 := kZ1.cell 1
  simp only [List.getElem?_toArray, List.getElem?_cons_zero, List.getElem?_cons_succ] at y0 y1
  have hc2 := refRestore_ok hd1
  go_wp2_with fail
  refine hc2.mono ?_
  rintro e w2 ⟨rfl, kd2, s2⟩
  have kp2 := s2.blk kp1 hgd
  go_wp2_with fail
  go_ret
  exact ⟨_, -1, W, -1, V, rfl, kp2, (by rw [show bL (-1) = true by decide, show aL (-1) = 0 by decide]; exact kd2), by unfold In; omega, by unfold In; omega, fun h1 h2 => ⟨rfl, rfl, h2⟩, id, (sZ.trans (s1.mono fun k h => .inl h)).trans (s2.mono fun k h => .inr h)⟩

set_option maxRecDepth 100000 in
set_option maxHeartbeats 4000000 in
theorem step_spend (n : Int) (on : Bool) (hp : Blk w g 119 (PC L W)) (hd : Blk w d 121 (DC (bL M) (aL M) V)) (hI : In L) (hJ : In M) (hgd : g ≠ d) :
    Calls Try.prog 18 #[.pointer (some ⟨g, 0, none⟩), .pointer (some ⟨d, 0, none⟩), .agg #[.int .i64 3, .int .i64 n, .bool on]] w (StepP g d L W M V w) := by
  have lg := hp.lt
  have ld := hd.lt
  have bZ : Below w.heap.size w (w.alloc (.cells #[.int .i64 3, .int .i64 n, .bool on] 29)) := (Below.refl _ _).alloc (Nat.le_refl _) _
  have kZ := Blk.new w 29 #[.int .i64 3, .int .i64 n, .bool on]
  have hpZ := hp.below bZ lg
  have hdZ := hd.below bZ ld
  have sZ : St (two g d) w _ := St.of_below bZ
  have zZ := bZ.size
  generalize hWZ : w.alloc (.cells #[.int .i64 3, .int .i64 n, .bool on] 29) = WZ at *
  have y0 := kZ.cell 0
  have y1 := kZ.cell 1
  simp only [List.getElem?_toArray, List.getElem?_cons_zero, List.getElem?_cons_succ] at y0 y1
  have lZ := kZ.lt
  have hgZ : w.heap.size ≠ g := by omega
  have hdZ' : w.heap.size ≠ d := by omega
  clear hp hd
  have hc1 := spend_ok hpZ hI
  go_enter Try.func18, Try.ntmps18
  go_wp2_with fail
  refine hc1.mono ?_
  rintro e w1 ⟨rfl, kp1, s1⟩
  have hd1 := s1.blk hdZ (fun h => hgd h.symm)
  have kZ1 := s1.blk kZ hgZ
  clear kZ y0 y1
  have z1 := s1.size
  have y0 := kZ1.cell 0
  have y1 := kZ1.cell 1
  simp only [List.getElem?_toArray, List.getElem?_cons_zero, List.getElem?_cons_succ] at y0 y1
  have hc2 := refSpend_ok hd1 hJ
  go_wp2_with fail
  refine hc2.mono ?_
  rintro e w2 ⟨rfl, kd2, s2⟩
  have kp2 := s2.blk kp1 hgd
  go_wp2_with fail
  go_ret
  exact ⟨_, _, _, _, _, rfl, kp2, kd2, in_sp hI, in_sp hJ, fun h1 h2 => ⟨by rw [h1]; simp, by rw [h1], by rw [h1, h2]⟩, wr_sp, (sZ.trans (s1.mono fun k h => .inl h)).trans (s2.mono fun k h => .inr h)⟩

set_option maxRecDepth 100000 in
set_option maxHeartbeats 4000000 in
theorem step_many (n : Int) (on : Bool) (hp : Blk w g 119 (PC L W)) (hd : Blk w d 121 (DC (bL M) (aL M) V)) (hI : In L) (hJ : In M) (hgd : g ≠ d) :
    Calls Try.prog 18 #[.pointer (some ⟨g, 0, none⟩), .pointer (some ⟨d, 0, none⟩), .agg #[.int .i64 4, .int .i64 n, .bool on]] w (StepP g d L W M V w) := by
  have lg := hp.lt
  have ld := hd.lt
  have bZ : Below w.heap.size w (w.alloc (.cells #[.int .i64 4, .int .i64 n, .bool on] 29)) := (Below.refl _ _).alloc (Nat.le_refl _) _
  have kZ := Blk.new w 29 #[.int .i64 4, .int .i64 n, .bool on]
  have hpZ := hp.below bZ lg
  have hdZ := hd.below bZ ld
  have sZ : St (two g d) w _ := St.of_below bZ
  have zZ := bZ.size
  generalize hWZ : w.alloc (.cells #[.int .i64 4, .int .i64 n, .bool on] 29) = WZ at *
  have y0 := kZ.cell 0
  have y1 := kZ.cell 1
  simp only [List.getElem?_toArray, List.getElem?_cons_zero, List.getElem?_cons_succ] at y0 y1
  have lZ := kZ.lt
  have hgZ : w.heap.size ≠ g := by omega
  have hdZ' : w.heap.size ≠ d := by omega
  clear hp hd
  have hpk := fun wx => pick_ok n 50 (by omega) (by omega) wx
  have hm := pk_lt n 50 (by omega)
  generalize pk n 50 = m at hpk hm
  rw [show ((50 : Nat) : Int) = 50 from rfl] at hpk
  go_enter Try.func18, Try.ntmps18
  go_wp2_with fail
  go_loopw [8] (fun i wr => ∃ (j : Nat) (L' W' M' V' : Int), j ≤ m ∧ i = .int .i64 (j : Int) ∧ Blk wr g 119 (PC L' W') ∧ Blk wr d 121 (DC (bL M') (aL M') V') ∧ Hid (In L' ∧ In M' ∧ (WR W → WR W')) ∧ Hid (L = M → W = V → L' = M' ∧ W' = V') ∧ St (two g d) WZ wr) (fun i _ => m - (intOf i).toNat)
  case atStart => exact ⟨0, L, W, M, V, Nat.zero_le _, rfl, hpZ, hdZ, lay ⟨hI, hJ, id⟩, lay (fun h1 h2 => ⟨h1, h2⟩), St.refl _ _⟩
  case round =>
    obtain ⟨j, L', W', M', V', hj, rfl, kp, kd, hIJ, hS, sr⟩ := hrel
    have kZr := sr.blk kZ (fun h => h.elim hgZ hdZ')
    clear kZ y0 y1 hpZ hdZ hWZ
    have zr := sr.size
    have y0 := kZr.cell 0
    have y1 := kZr.cell 1
    simp only [List.getElem?_toArray, List.getElem?_cons_zero, List.getElem?_cons_succ] at y0 y1
    have lp := kp.lt
    have ldr := kd.lt
    have lZr := kZr.lt
    by_cases hlt : j < m
    · have c1 := spend_ok kp hIJ.out.1
      have hpr := hpk wr
      clear hpk
      go_wp2_with fail
      refine hpr.mono ?_
      rintro e w1 ⟨rfl, rfl⟩
      go_wp2_with fail
      refine c1.mono ?_
      rintro e w2 ⟨rfl, kp2, s2⟩
      have kd2 := s2.blk kd (fun h => hgd h.symm)
      have c2 := refSpend_ok kd2 hIJ.out.2.1
      have HE := lay (show L = M → W = V → eSp L' = eSp M' ∧ spL L' = spL M' ∧ wSp L' W' = wSp M' V' from fun h1 h2 => by obtain ⟨e1, e2⟩ := hS.out h1 h2; subst e1 e2; exact ⟨rfl, rfl, rfl⟩)
      by_cases hee : eSp L' = eSp M'
      · rw [← hee] at c2
        clear hee
        go_wp2_with fail
        refine c2.mono ?_
        rintro e w3 ⟨rfl, kd3, s3⟩
        have kp3 := s3.blk kp2 hgd
        go_wp2_with fail
        exact ⟨⟨j + 1, _, _, _, _, hlt, by go_num, kp3, kd3, lay ⟨in_sp hIJ.out.1, in_sp hIJ.out.2.1, fun h => wr_sp (hIJ.out.2.2 h)⟩, lay (fun h1 h2 => (HE.out h1 h2).2), (sr.trans (s2.mono fun k h => .inl h)).trans (s3.mono fun k h => .inr h)⟩, by first | (simp [intOf]; done) | (simp [intOf]; omega) | omega⟩
      · have HN := lay hee
        have dd : (eSp L' == eSp M') = false := by rw [beq_eq_false_iff_ne]; exact hee
        have dd2 : decide (eSp L' = eSp M') = false := decide_eq_false hee
        go_wp2_with fail
        refine c2.mono ?_
        rintro e w3 ⟨rfl, kd3, s3⟩
        have kp3 := s3.blk kp2 hgd
        go_wp2_with fail
        go_ret
        exact ⟨false, _, _, _, _, rfl, kp3, kd3, in_sp hIJ.out.1, in_sp hIJ.out.2.1, fun h1 h2 => absurd (HE.out h1 h2).1 HN.out, fun h => wr_sp (hIJ.out.2.2 h), sZ.trans ((sr.trans (s2.mono fun k h => .inl h)).trans (s3.mono fun k h => .inr h))⟩
    · obtain rfl : j = m := by omega
      have hpr := hpk wr
      clear hpk
      go_wp2_with fail
      refine hpr.mono ?_
      rintro e w1 ⟨rfl, rfl⟩
      go_wp2_with fail
      go_ret
      exact ⟨true, _, _, _, _, rfl, kp, kd, hIJ.out.1, hIJ.out.2.1, fun h1 h2 => ⟨rfl, hS.out h1 h2⟩, hIJ.out.2.2, sZ.trans sr⟩

theorem step_ok (x : OP) (hp : Blk w g 119 (PC L W)) (hd : Blk w d 121 (DC (bL M) (aL M) V)) (hI : In L) (hJ : In M) (hgd : g ≠ d) :
    Calls Try.prog 18 #[.pointer (some ⟨g, 0, none⟩), .pointer (some ⟨d, 0, none⟩), .agg #[.int .i64 x.k, .int .i64 x.n, .bool x.on]] w (StepP g d L W M V w) := by
  obtain ⟨k, n, on⟩ := x
  by_cases h1 : k = 1
  · subst h1; exact step_cut n on hp hd hI hJ hgd
  · by_cases h2 : k = 2
    · subst h2; exact step_restore n on hp hd hI hJ hgd
    · by_cases h3 : k = 3
      · subst h3; exact step_spend n on hp hd hI hJ hgd
      · by_cases h4 : k = 4
        · subst h4; exact step_many n on hp hd hI hJ hgd
        · exact step_none k h1 h2 h3 h4 n on hp hd hI hJ hgd

set_option maxRecDepth 100000 in
set_option maxHeartbeats 4000000 in
theorem awake_ok (w : World) :
    Calls Try.prog 15 #[] w fun e w' => e = .returned (.bool true) ∧ Below w.heap.size w w' := by
  have hn := new_ok w
  have iI : ∀ L : Int, -1 ≤ L → L ≤ 1073741824 → In L := fun L h1 h2 => ⟨h1, h2⟩
  go_enter Try.func15, Try.ntmps15
  go_wp2_with fail
  refine hn.mono ?_
  rintro e w1 ⟨rfl, k1, b1, z1⟩
  obtain ⟨g, hg⟩ : ∃ g, w.heap.size = g := ⟨_, rfl⟩
  rw [hg] at k1 b1 z1 ⊢
  have HG := lay hg
  clear hg
  have a1 := on_ok k1
  have a2 := left_ok k1 (iI _ (by omega) (by omega))
  have a3 := writes_ok k1 (iI _ (by omega) (by omega))
  change Calls _ _ _ _ fun e w' => e = .returned (.bool true) ∧ w' = w1 at a1
  have c1 := cut_ok 2 k1 (iI _ (by omega) (by omega))
  rw [show cutL (-1) 2 = 2 from by decide] at c1
  clear z1
  go_wp2_with (first | (go_at_call 24; refine a1.mono ?_; rintro e wa ⟨rfl, rfl⟩) | (go_at_call 25; refine a2.mono ?_; rintro e wa ⟨rfl, rfl⟩) | (go_at_call 21; refine a3.mono ?_; rintro e wa ⟨rfl, rfl⟩))
  refine c1.mono ?_
  rintro e w2 ⟨rfl, k2, s2⟩
  clear a1 a2 a3 c1
  have c2 := spend_ok k2 (iI _ (by omega) (by omega))
  rw [show eSp 2 = 0 by decide, show spL 2 = 1 by decide, show wSp 2 0 = 1 by simp [wSp, nx, wrap64]] at c2
  go_wp2_with fail
  refine c2.mono ?_
  rintro e w3 ⟨rfl, k3, s3⟩
  clear c2
  have c3 := left_ok k3 (iI _ (by omega) (by omega))
  have c4 := spend_ok k3 (iI _ (by omega) (by omega))
  rw [show eSp 1 = 0 by decide, show spL 1 = 0 by decide, show wSp 1 1 = 2 by simp [wSp, nx, wrap64]] at c4
  go_wp2_with fail
  refine c3.mono ?_
  rintro e wb ⟨rfl, rfl⟩
  go_wp2_with fail
  refine c4.mono ?_
  rintro e w4 ⟨rfl, k4, s4⟩
  clear c3 c4
  have c5 := spend_ok k4 (iI _ (by omega) (by omega))
  rw [show eSp 0 = 110 by decide, show spL 0 = 0 by decide, show wSp 0 2 = 2 by decide] at c5
  go_wp2_with fail
  refine c5.mono ?_
  rintro e w5 ⟨rfl, k5, s5⟩
  clear c5
  have a1 := on_ok k5
  have a2 := left_ok k5 (iI _ (by omega) (by omega))
  have a3 := writes_ok k5 (iI _ (by omega) (by omega))
  change Calls _ _ _ _ fun e w' => e = .returned (.bool false) ∧ w' = w5 at a1
  have bb : Below g w w5 := b1.trans (((s2.trans s3).trans (s4.trans s5)).below (fun k h => Nat.le_of_eq h.symm) (Nat.le_of_lt k1.lt))
  clear k1 k2 k3 k4 s2 s3 s4 s5 b1
  go_wp2_with (first | (go_at_call 24; refine a1.mono ?_; rintro e wa ⟨rfl, rfl⟩) | (go_at_call 25; refine a2.mono ?_; rintro e wa ⟨rfl, rfl⟩) | (go_at_call 21; refine a3.mono ?_; rintro e wa ⟨rfl, rfl⟩))
  go_ret
  exact ⟨rfl, by rw [HG.out]; exact bb⟩

end Go.Proofs.Ytchghlbiongccaa.powers
