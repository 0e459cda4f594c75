/- PowerCuts. -/
import Derived.Test.YtchghlbiongccaaPwD
import Derived.Test.YtchghlbiongccaaMixE


namespace Go.Proofs.Ytchghlbiongccaa.powers
set_option linter.unusedVariables false
set_option linter.unusedSimpArgs false
open Go.RowKit Go.Proofs.Ytchghlbiongccaa.base

theorem cut_yes (n : Nat) (hn : n ≤ 3000) : cutL (-1) (n : Int) = (n : Int) := by unfold cutL; rw [if_neg (by omega)]; omega
theorem v_zero {W : Int} (h : WR W) : wrap64 (W + ((0 : Nat) : Int)) = W := by unfold WR at h; unfold wrap64; omega
theorem v_next (W : Int) (j : Nat) : wrap64 (wrap64 (W + (j : Int)) + 1) = wrap64 (W + ((j + 1 : Nat) : Int)) := by unfold wrap64; omega

set_option maxRecDepth 100000 in
set_option maxHeartbeats 4000000 in
theorem law_cuts (l : List OP) (A : Option Addr) (c : Nat) (n0 : Int) (w : World) (hX : Xs w w.heap.size l A c) :
    Calls Try.prog 4 #[.slice A l.length c, .int .i64 n0] w fun e w' => e = .returned (.bool true) ∧ Below w.heap.size w w' := by
  have hlen : l.length ≤ 140737488355328 := by have := hX.2.1; omega
  have h0 := awake_ok w
  have hn := pk_lt n0 3000 (by omega)
  have hpk := fun wx => pick_ok n0 3000 (by omega) (by omega) wx
  generalize pk n0 3000 = n at hn hpk
  rw [show ((3000 : Nat) : Int) = 3000 from rfl] at hpk
  go_enter Try.func4, Try.ntmps4
  go_wp2_with fail
  refine h0.mono ?_
  rintro e w1 ⟨rfl, b1⟩
  have h1 := new_ok w1
  go_wp2_with fail
  refine h1.mono ?_
  rintro e w2 ⟨rfl, k1, b2, z2⟩
  have lw := b1.size
  have hb0 : Below w.heap.size w w2 := b1.trans (b2.mono b1.size)
  clear h0 h1 b1 b2 z2
  generalize w1.heap.size = g at *
  go_wp2_with fail
  go_loopw [7] (fun i wr => ∃ (j : Nat) (L W : Int), j ≤ l.length ∧ i = .int .i64 (j : Int) ∧ Blk wr g 119 (PC L W) ∧ Hid (In L) ∧ Hid (WR W) ∧ Below w.heap.size w wr) (fun i _ => l.length - (intOf i).toNat)
  case atStart => exact ⟨0, _, _, Nat.zero_le _, rfl, k1, lay (by unfold In; omega), lay (by unfold WR; omega), hb0⟩
  case round =>
    clear k1 hb0
    obtain ⟨j, L, W, hj, rfl, kp, hI, hW, hb⟩ := hrel
    by_cases hlt : j < l.length
    · obtain ⟨bk, off, rfl, hbk, x0, x1, x2⟩ := (hX.below hb).at_ hlt
      have hbs := hb.size
      have hH := lay hX
      clear hX hpk
      generalize l[j] = x at x0 x1 x2
      obtain ⟨xk, xn, xo⟩ := x
      simp only [] at x0 x1 x2
      have lg := kp.lt
      have c1 := fun wx => refNew_ok wx
      have lB : bk < wr.heap.size := by omega
      go_wp2_with fail
      have hS0 : Below wr.heap.size wr wr.drew := (Below.refl _ _).drew
      refine mix.region_D (fun w' => Below wr.heap.size wr w') (fun j => j == 6) (by kernel_rfl) ?_
      refine mix.D_takeT (i := 0) (v := ?_) rfl (by kernel_rfl) (by kernel_rfl) (fun _ _ _ h => h) (Or.inl ⟨by rfl, ?_⟩) hS0 ?_
      rotate_left
      · intro w' hSw
        try simp only [List.getElem_toArray, List.getElem_cons_zero, List.getElem_cons_succ]
        go_simp
        exact rfl
      try simp only [Act.put, List.setIfInBounds_toArray, List.set_cons_zero, List.set_cons_succ, List.getElem_toArray, List.getElem_cons_zero, List.getElem_cons_succ]
      refine mix.D_takeT (i := 2) (v := ?_) rfl (by kernel_rfl) (by kernel_rfl) (fun _ _ _ h => h) (Or.inl ⟨by rfl, ?_⟩) hS0 ?_
      rotate_left
      · intro w' hSw
        try simp only [List.getElem_toArray, List.getElem_cons_zero, List.getElem_cons_succ]
        go_simp
        exact rfl
      try simp only [Act.put, List.setIfInBounds_toArray, List.set_cons_zero, List.set_cons_succ, List.getElem_toArray, List.getElem_cons_zero, List.getElem_cons_succ]
      refine mix.D_takeT (i := 3) (v := ?_) rfl (by kernel_rfl) (by kernel_rfl) (fun _ _ _ h => h) (Or.inl ⟨by rfl, ?_⟩) hS0 ?_
      rotate_left
      · intro w' hSw
        try simp only [List.getElem_toArray, List.getElem_cons_zero, List.getElem_cons_succ]
        go_simp
        exact rfl
      try simp only [Act.put, List.setIfInBounds_toArray, List.set_cons_zero, List.set_cons_succ, List.getElem_toArray, List.getElem_cons_zero, List.getElem_cons_succ]
      refine mix.D_takeT (i := 4) (v := ?_) rfl (by kernel_rfl) (by kernel_rfl) (fun _ _ _ h => h) (Or.inl ⟨by rfl, ?_⟩) hS0 ?_
      rotate_left
      · intro w' hSw
        try simp only [List.getElem_toArray, List.getElem_cons_zero, List.getElem_cons_succ]
        go_simp
        exact rfl
      try simp only [Act.put, List.setIfInBounds_toArray, List.set_cons_zero, List.set_cons_succ, List.getElem_toArray, List.getElem_cons_zero, List.getElem_cons_succ]
      refine mix.D_takeT (i := 5) (v := ?_) rfl (by kernel_rfl) (by kernel_rfl) (fun _ _ _ h => h) (Or.inl ⟨by rfl, ?_⟩) hS0 ?_
      rotate_left
      · intro w' hSw
        have y0 := (hSw.cell (p := ⟨bk, off + j * 3, none⟩) lB).trans x0
        have y1 := (hSw.cell (p := ⟨bk, off + j * 3 + 1, none⟩) lB).trans x1
        have y2 := (hSw.cell (p := ⟨bk, off + j * 3 + 2, none⟩) lB).trans x2
        try simp only [List.getElem_toArray, List.getElem_cons_zero, List.getElem_cons_succ]
        go_simp
        exact rfl
      try simp only [Act.put, List.setIfInBounds_toArray, List.set_cons_zero, List.set_cons_succ, List.getElem_toArray, List.getElem_cons_zero, List.getElem_cons_succ]
      refine mix.D_op (k := 1) rfl rfl (by kernel_rfl) (fun K' hK => ?_)
      simp only [List.getElem_toArray, List.getElem_cons_zero, List.getElem_cons_succ]
      go_wp2_with fail
      refine (c1 _).mono ?_
      rintro e w3 ⟨rfl, kd, bd, zd⟩
      simp only [World.size_drew] at bd kd zd
      have hb3 : Below wr.heap.size wr w3 := hS0.trans bd
      have kp3 := kp.below hb3 lg
      have HZ := lay zd
      clear zd c1
      refine hK.out _ _ (fun _ => hb3) ?_
      clear hK K'
      try simp only [Act.put, List.setIfInBounds_toArray, List.set_cons_zero, List.set_cons_succ]
      have kd' : Blk w3 wr.heap.size 121 (DC (bL (-1)) (aL (-1)) 0) := kd
      have c2 := step_ok ⟨xk, xn, xo⟩ kp3 kd' hI.out (by unfold In; omega) (by omega)
      have lw3 := hb3.size
      clear kd kd' kp3
      refine mix.D_op (k := 6) rfl rfl (by kernel_rfl) (fun K' hK => ?_)
      simp only [List.getElem_toArray, List.getElem_cons_zero, List.getElem_cons_succ]
      go_wp2_with fail
      refine c2.mono ?_
      rintro e w4 ⟨b, L', W', M', V', rfl, kp4, kd4, i4, j4, _, wr4, s4⟩
      refine hK.out _ _ (fun h => by simp at h) ?_
      clear hK K'
      refine mix.D_done (by kernel_rfl) ?_ _
      go_wp2_with fail
      refine ⟨⟨j + 1, _, _, hlt, by go_num, kp4, lay i4, lay (wr4 hW.out), ?_⟩, by first | (simp [intOf]; done) | (simp [intOf]; omega) | omega⟩
      refine hb.trans ((hb3.mono hbs).trans (s4.below (fun k h => ?_) (by omega)))
      rcases h with h | h <;> omega
    · obtain rfl : j = l.length := by omega
      have c1 := restore_ok kp
      clear hX
      have lg := kp.lt
      have hbs := hb.size
      clear hI
      go_wp2_with fail
      refine c1.mono ?_
      rintro e w3 ⟨rfl, k3, s3⟩
      have hb3 := hb.trans (s3.below (fun k h => by unfold one at h; omega) hbs)
      have c2 := writes_ok k3 (by unfold In; omega)
      clear c1 kp s3 hb
      go_wp2_with fail
      refine c2.mono ?_
      rintro e wa ⟨rfl, rfl⟩
      have c3 := hpk wa
      clear hpk c2
      go_wp2_with fail
      refine c3.mono ?_
      rintro e wb ⟨rfl, rfl⟩
      have c4 := cut_ok (n : Int) k3 (by unfold In; omega)
      rw [cut_yes n (by omega)] at c4
      clear c3
      go_wp2_with fail
      refine c4.mono ?_
      rintro e w4 ⟨rfl, k4, s4⟩
      have hb4 := hb3.trans (s4.below (fun k h => by unfold one at h; omega) hb3.size)
      rw [← v_zero hW.out] at k4
      clear c4 hb3 s4 k3 lg
      go_wp2_with fail
      go_loopw [9] (fun i wr => ∃ (j : Nat), j ≤ n ∧ i = .int .i64 (j : Int) ∧ Blk wr g 119 (PC ((n : Int) - (j : Int)) (wrap64 (W + (j : Int)))) ∧ Below w.heap.size w wr) (fun i _ => n - (intOf i).toNat)
      case atStart => exact ⟨0, Nat.zero_le _, rfl, by simpa using k4, hb4⟩
      case round =>
        clear k4 hb4
        obtain ⟨j, hj, rfl, kp, hb⟩ := hrel
        have hbs := hb.size
        by_cases hlt : j < n
        · have c1 := on_ok kp
          rw [show bL ((n : Int) - (j : Int)) = true by unfold bL; rw [decide_eq_true_iff]; omega] at c1
          have c2 := left_ok kp (by unfold In; omega)
          have c3 := spend_ok kp (by unfold In; omega)
          rw [show eSp ((n : Int) - (j : Int)) = 0 by unfold eSp; rw [if_neg (by omega)], show spL ((n : Int) - (j : Int)) = (n : Int) - (j : Int) - 1 by unfold spL; rw [if_neg (by omega)], show wSp ((n : Int) - (j : Int)) (wrap64 (W + (j : Int))) = wrap64 (wrap64 (W + (j : Int)) + 1) by unfold wSp; rw [if_neg (by omega)]; rfl] at c3
          go_wp2_with (first | (go_at_call 24; refine (c1).mono ?_; rintro e wa ⟨rfl, rfl⟩) | (go_at_call 25; refine (c2).mono ?_; rintro e wa ⟨rfl, rfl⟩))
          refine c3.mono ?_
          rintro e w5 ⟨rfl, k5, s5⟩
          have hb5 := hb.trans (s5.below (fun k h => by unfold one at h; omega) hbs)
          have c4 := writes_ok k5 (by unfold In; omega)
          clear c1 c2 c3 kp s5 hb
          have VN := lay (v_next W j)
          go_wp2_with (first | (go_at_call 21; refine (c4).mono ?_; rintro e wa ⟨rfl, rfl⟩))
          exact ⟨⟨j + 1, hlt, by go_num, by rw [← VN.out, show (n : Int) - ((j + 1 : Nat) : Int) = (n : Int) - (j : Int) - 1 by omega]; exact k5, hb5⟩, by first | (simp [intOf]; done) | (simp [intOf]; omega) | omega⟩
        · obtain rfl : j = n := by omega
          rw [show (j : Int) - (j : Int) = 0 by omega] at kp
          clear hj hlt
          obtain ⟨V, hV⟩ : ∃ V, V = wrap64 (W + (j : Int)) := ⟨_, rfl⟩
          go_wp2_with fail
          go_loopw [10] (fun i wr => ∃ (k : Nat), k ≤ 3 ∧ i = .int .i64 (k : Int) ∧ Blk wr g 119 (PC 0 (wrap64 (W + (j : Int)))) ∧ Below w.heap.size w wr) (fun i _ => 3 - (intOf i).toNat)
          case atStart => exact ⟨0, Nat.zero_le _, rfl, kp, hb⟩
          case round =>
            clear kp hb hbs
            obtain ⟨k, hk, rfl, kp, hb⟩ := hrel
            have hbs := hb.size
            by_cases hlt : k < 3
            · have c1 := cut_ok 5 kp (by unfold In; omega)
              rw [show cutL 0 5 = 0 from rfl] at c1
              go_wp2_with fail
              refine c1.mono ?_
              rintro e w5 ⟨rfl, k5, s5⟩
              have hb5 := hb.trans (s5.below (fun k h => by unfold one at h; omega) hbs)
              clear c1 kp s5 hb
              have c1 := on_ok k5
              have c2 := left_ok k5 (by unfold In; omega)
              have c3 := spend_ok k5 (by unfold In; omega)
              rw [show eSp 0 = 110 from rfl, show spL 0 = 0 from rfl, show wSp 0 (wrap64 (W + (j : Int))) = wrap64 (W + (j : Int)) from rfl] at c3
              change Calls _ _ _ _ fun e w' => e = .returned (.bool false) ∧ w' = w5 at c1
              go_wp2_with (first | (go_at_call 24; refine (c1).mono ?_; rintro e wa ⟨rfl, rfl⟩) | (go_at_call 25; refine (c2).mono ?_; rintro e wa ⟨rfl, rfl⟩))
              refine c3.mono ?_
              rintro e w6 ⟨rfl, k6, s6⟩
              have hb6 := hb5.trans (s6.below (fun k h => by unfold one at h; omega) hb5.size)
              have c4 := writes_ok k6 (by unfold In; omega)
              clear c1 c2 c3 k5 s6 hb5
              go_wp2_with (first | (go_at_call 21; refine (c4).mono ?_; rintro e wa ⟨rfl, rfl⟩))
              exact ⟨⟨k + 1, hlt, by go_num, k6, hb6⟩, by first | (simp [intOf]; done) | (simp [intOf]; omega) | omega⟩
            · obtain rfl : k = 3 := by omega
              have c1 := restore_ok kp
              go_wp2_with fail
              refine c1.mono ?_
              rintro e w5 ⟨rfl, k5, s5⟩
              have hb5 := hb.trans (s5.below (fun k h => by unfold one at h; omega) hbs)
              clear c1 kp s5 hb
              have c1 := on_ok k5
              have c2 := left_ok k5 (by unfold In; omega)
              have c3 := spend_ok k5 (by unfold In; omega)
              rw [show eSp (-1) = 0 from rfl, show spL (-1) = -1 from rfl, show wSp (-1) (wrap64 (W + (j : Int))) = wrap64 (wrap64 (W + (j : Int)) + 1) from rfl] at c3
              change Calls _ _ _ _ fun e w' => e = .returned (.bool true) ∧ w' = w5 at c1
              go_wp2_with (first | (go_at_call 24; refine (c1).mono ?_; rintro e wa ⟨rfl, rfl⟩) | (go_at_call 25; refine (c2).mono ?_; rintro e wa ⟨rfl, rfl⟩))
              refine c3.mono ?_
              rintro e w6 ⟨rfl, k6, s6⟩
              have hb6 := hb5.trans (s6.below (fun k h => by unfold one at h; omega) hb5.size)
              have c4 := writes_ok k6 (by unfold In; omega)
              clear c1 c2 c3 k5 s6 hb5
              go_wp2_with (first | (go_at_call 21; refine (c4).mono ?_; rintro e wa ⟨rfl, rfl⟩))
              go_ret
              exact ⟨by simp, hb6⟩

end Go.Proofs.Ytchghlbiongccaa.powers
