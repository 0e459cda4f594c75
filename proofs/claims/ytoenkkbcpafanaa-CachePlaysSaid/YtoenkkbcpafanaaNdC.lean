/- What letheref06's inner, Right and Low answer. -/
import Derived.Test.YtoenkkbcpafanaaNdB


namespace Go.Proofs.Ytoenkkbcpafanaa.nodes
set_option linter.unusedVariables false
set_option linter.unusedSimpArgs false
open Go.RowKit Go.Proofs.Ytoenkkbcpafanaa.base Go.Proofs.Ytoenkkbcpafanaa.quotas Go.Proofs.Ytoenkkbcpafanaa.vers

set_option maxRecDepth 100000 in
set_option maxHeartbeats 1000000 in
theorem inner_bad1 (a b c d e f h : Int) (lf : Bool) (ne nk : Nat) (A : Option Addr) (cap : Nat) (A' : Option Addr) (cap' : Nat) (w : World) (hp : 0 < ne) (hm : ne ≤ 140737488355328) :
    Calls Try.prog 129 #[.agg #[.int .i64 a, .int .i64 b, .int .i64 c, .int .i64 d, .int .i64 e, .int .i64 f, .int .i64 h], .agg #[.bool lf, .slice A ne cap, .slice A' nk cap']] w fun x w' => x = .returned (.int .i64 60) ∧ Below w.heap.size w w' := by
  have I0 := Bn.new w a b c d e f h lf (.slice A ne cap) (.slice A' nk cap')
  have hp1 : (0 : Int) < (ne : Int) := by omega
  go_enter Try.func129, Try.ntmps129
  go_wp2_with fail
  go_ret
  exact ⟨rfl, I0.below⟩

set_option maxRecDepth 100000 in
set_option maxHeartbeats 1000000 in
theorem inner_bad2 (a b c d e f h : Int) (lf : Bool) (nk : Nat) (A : Option Addr) (cap : Nat) (A' : Option Addr) (cap' : Nat) (w : World) (hp : (nk : Int) < 2) :
    Calls Try.prog 129 #[.agg #[.int .i64 a, .int .i64 b, .int .i64 c, .int .i64 d, .int .i64 e, .int .i64 f, .int .i64 h], .agg #[.bool lf, .slice A 0 cap, .slice A' nk cap']] w fun x w' => x = .returned (.int .i64 60) ∧ Below w.heap.size w w' := by
  have I0 := Bn.new w a b c d e f h lf (.slice A 0 cap) (.slice A' nk cap')

  go_enter Try.func129, Try.ntmps129
  go_wp2_with fail
  go_ret
  exact ⟨rfl, I0.below⟩

set_option maxRecDepth 100000 in
set_option maxHeartbeats 1000000 in
theorem inner_bad3 (a b c d e f h : Int) (lf : Bool) (nk : Nat) (A : Option Addr) (cap : Nat) (A' : Option Addr) (cap' : Nat) (w : World) (hp : ¬ (nk : Int) < 2) (hq : (4 : Int) < (nk : Int)) (hm : nk ≤ 140737488355328) :
    Calls Try.prog 129 #[.agg #[.int .i64 a, .int .i64 b, .int .i64 c, .int .i64 d, .int .i64 e, .int .i64 f, .int .i64 h], .agg #[.bool lf, .slice A 0 cap, .slice A' nk cap']] w fun x w' => x = .returned (.int .i64 60) ∧ Below w.heap.size w w' := by
  have I0 := Bn.new w a b c d e f h lf (.slice A 0 cap) (.slice A' nk cap')

  go_enter Try.func129, Try.ntmps129
  go_wp2_with fail
  go_ret
  exact ⟨rfl, I0.below⟩

/-- a round's head of inner: so far nothing is wrong -/
def JHead6 (w : World) (a b c d e f h : Int) (lf : Bool) (ks : List K) (u u' : Value) (x : Value) (wr : World) : Prop :=
  ∃ j : Nat, j ≤ ks.length ∧ x = .int .i64 j ∧ Hid (kbad b none ks = kbad b (aheadK ks j) (ks.drop j)) ∧ Bn w a b c d e f h lf u u' wr

set_option maxRecDepth 100000 in
set_option maxHeartbeats 1000000 in
theorem inner_loop (a b c d e f h : Int) (lf : Bool) (ks : List K) (A : Option Addr) (cap : Nat) (A' : Option Addr) (cap' : Nat) (w : World) (hk : Ks w w.heap.size ks A' cap') (h2 : ¬ (ks.length : Int) < 2) (h4 : ¬ (4 : Int) < (ks.length : Int)) :
    Calls Try.prog 129 #[.agg #[.int .i64 a, .int .i64 b, .int .i64 c, .int .i64 d, .int .i64 e, .int .i64 f, .int .i64 h], .agg #[.bool lf, .slice A 0 cap, .slice A' ks.length cap']] w fun x w' => x = .returned (.int .i64 (kbad b none ks)) ∧ Below w.heap.size w w' := by
  have hlen : ks.length ≤ 140737488355328 := by have := hk.2.1; omega
  have I0 := Bn.new w a b c d e f h lf (.slice A 0 cap) (.slice A' ks.length cap')
  go_enter Try.func129, Try.ntmps129
  go_wp2_with fail
  go_loopw [26] (fun x wr => JHead6 w a b c d e f h lf ks (.slice A 0 cap) (.slice A' ks.length cap') x wr) (fun x _ => ks.length - (intOf x).toNat)
  case atStart => exact ⟨0, Nat.zero_le _, rfl, lay (by rw [aheadK_zero]; rfl), I0⟩
  case round =>
    obtain ⟨j, hj, rfl, hV, I2⟩ := hrel
    clear I0
    obtain ⟨⟨⟨c0, c1, c2, c3, c4, c5, c6⟩, l1, l2, b1⟩, ⟨n0, n1, n2⟩, l3⟩ := id I2
    by_cases hlt : j < ks.length
    · obtain ⟨bk, off, rfl, hbk, e0, e1, e2, e3, e4⟩ := (hk.below b1).at_ hlt
      have hat := lay (kbad_at b (aheadK ks j) ks hlt)
      have hsu := lay (aheadK_succ ks hlt)
      have I3 := I2.alloc (.cells #[.string ks[j].s, .int .u64 (ks[j].k : Int), .int .i64 ks[j].g, .int .i64 ks[j].o, .int .i64 ks[j].n] 162)
      have hbox := Blk.new wr 162 #[.string ks[j].s, .int .u64 (ks[j].k : Int), .int .i64 ks[j].g, .int .i64 ks[j].o, .int .i64 ks[j].n]
      by_cases g1 : ks[j].s.size = 0
      · have hs0 := empty_yes g1
        have hr := lay (hV.out.trans (hat.out.trans (if_pos g1)))
        clear g1 hat
        go_wp2_with fail
        go_ret
        exact ⟨ret_int hr.out.symm, I3.below⟩
      · have hs0 := empty_no g1
        have hat1 := lay (hat.out.trans (if_neg g1))
        clear g1 hat
        by_cases g2 : b < (ks[j].s.size : Int)
        · have d2 : decide (b < (ks[j].s.size : Int)) = true := decide_eq_true g2
          have hr := lay (hV.out.trans (hat1.out.trans (if_pos g2)))
          clear g2 hat1
          go_wp2_with fail
          go_ret
          exact ⟨ret_int hr.out.symm, I3.below⟩
        · have d2 : decide (b < (ks[j].s.size : Int)) = false := decide_eq_false g2
          have hat2 := lay (hat1.out.trans (if_neg g2))
          clear g2 hat1
          by_cases g3 : refOk ks[j].g ks[j].o ks[j].n
          · have hat3 := lay (hat2.out.trans (if_neg (by simpa using g3)))
            have hc := fun w0 => refRef_ok ks[j].k ks[j].g ks[j].o ks[j].n w0 g3
            clear g3 hat2
            go_wp2_with fail
            refine (hc _).mono ?_
            rintro x w1 ⟨rfl, hb1⟩
            have I4 := I3.next hb1
            have hbx := hbox.below hb1 hbox.lt
            have x0 := hbx.cell 0
            simp at x0
            have x9 := hbx.lt
            clear c0 c1 c2 c3 c4 c5 c6 l1 l2 n0 n1 n2 l3 e0 e1 e2 e3 e4 hbox hbx I2 I3 hb1 hc b1 hs0 d2
            obtain ⟨⟨⟨c0, c1, c2, c3, c4, c5, c6⟩, l1, l2, b1⟩, ⟨n0, n1, n2⟩, l3⟩ := id I4
            go_wp2_with fail
            by_cases hj0 : j = 0
            · subst hj0
              have hat4 := lay (hat3.out.trans (if_neg (by rw [aheadK_zero]; simp [behind])))
              have hV2 : Hid (kbad b none ks = kbad b (aheadK ks (0 + 1)) (ks.drop (0 + 1))) := lay (hV.out.trans (hat4.out.trans (by rw [hsu.out])))
              clear hat3 hat4
              go_quiet (fail)
              go_wp2_with fail
              exact ⟨⟨0 + 1, by omega, by go_num, hV2, I4.drewN _⟩, by simp [intOf]; omega⟩
            · obtain ⟨k, rfl⟩ : ∃ k, j = k + 1 := ⟨j - 1, by omega⟩
              have hk1 : k < ks.length := by omega
              obtain ⟨bk', off', e', _, y0, _, _⟩ := (hk.below b1).at_ hk1
              cases e'
              have hah := lay (aheadK_succ ks hk1)
              have hk2 : (0 : Int) ≤ (k : Int) := by omega
              have hwk : IntKind.i64.wrap (k : Int) = (k : Int) := IntWalk.i64_in _ (by omega)
              have hk3 : (k : Int) < (ks.length : Int) := by omega
              cases hs1 : Op.bytesLess ks[k + 1].s.toList ks[k].s.toList
              · cases hs2 : (ks[k + 1].s.toList == ks[k].s.toList)
                · have hb0 := sle_no hs1 hs2
                  have hV2 : Hid (kbad b none ks = kbad b (aheadK ks (k + 1 + 1)) (ks.drop (k + 1 + 1))) := lay (hV.out.trans (hat3.out.trans ((if_neg (by rw [hah.out]; show ¬ sle _ _ = true; rw [hb0]; simp)).trans (by rw [hsu.out]))))
                  clear hat3 hb0
                  go_quiet (fail)
                  go_wp2_with fail
                  exact ⟨⟨k + 1 + 1, by omega, by go_num, hV2, I4.drewN _⟩, by simp [intOf]; omega⟩
                · have hb0 := sle_same hs2
                  have hr := lay (hV.out.trans (hat3.out.trans (if_pos (by rw [hah.out]; exact hb0))))
                  clear hat3 hb0
                  go_quiet (fail)
                  go_wp2_with fail
                  go_ret
                  exact ⟨ret_int hr.out.symm, (I4.drewN _).below⟩
              · have hb0 := sle_less hs1
                have hr := lay (hV.out.trans (hat3.out.trans (if_pos (by rw [hah.out]; exact hb0))))
                clear hat3 hb0
                go_quiet (fail)
                go_wp2_with fail
                go_ret
                exact ⟨ret_int hr.out.symm, (I4.drewN _).below⟩
          · have hr := lay (hV.out.trans (hat2.out.trans (if_pos g3)))
            have hc := fun w0 => refRef_no ks[j].k ks[j].g ks[j].o ks[j].n w0 g3
            clear g3 hat2
            go_wp2_with fail
            refine (hc _).mono ?_
            rintro x w1 ⟨rfl, hb1⟩
            have I4 := I3.next hb1
            go_wp2_with fail
            go_ret
            exact ⟨ret_int hr.out.symm, I4.below⟩
    · have hr := lay (hV.out.trans (kbad_end b _ ks (by omega)))
      go_wp2_with fail
      go_ret
      exact ⟨ret_int hr.out.symm, b1⟩

theorem refInner_any (a b c d e f h : Int) (lf : Bool) (es : List E) (ks : List K) (A : Option Addr) (cap : Nat) (A' : Option Addr) (cap' : Nat) (w : World) (hv : Es w w.heap.size es A cap) (hk : Ks w w.heap.size ks A' cap') :
    Calls Try.prog 129 #[.agg #[.int .i64 a, .int .i64 b, .int .i64 c, .int .i64 d, .int .i64 e, .int .i64 f, .int .i64 h], .agg #[.bool lf, .slice A es.length cap, .slice A' ks.length cap']] w fun x w' => x = .returned (.int .i64 (if 0 < es.length ∨ ks.length < 2 ∨ 4 < ks.length then 60 else kbad b none ks)) ∧ Below w.heap.size w w' := by
  by_cases g1 : 0 < es.length
  · rw [if_pos (Or.inl g1)]
    exact inner_bad1 a b c d e f h lf _ _ A cap A' cap' w g1 (by have := hv.2.1; omega)
  · rw [show es.length = 0 by omega]
    by_cases g2 : ks.length < 2
    · rw [if_pos (Or.inr (Or.inl g2))]
      exact inner_bad2 a b c d e f h lf _ A cap A' cap' w (by omega)
    · by_cases g3 : 4 < ks.length
      · rw [if_pos (Or.inr (Or.inr g3))]
        exact inner_bad3 a b c d e f h lf _ A cap A' cap' w (by omega) (by omega) (by have := hk.2.1; omega)
      · rw [if_neg (by omega)]
        exact inner_loop a b c d e f h lf ks A cap A' cap' w hk (by omega) (by omega)

set_option maxRecDepth 100000 in
set_option maxHeartbeats 1000000 in
theorem refNode_any (a b c d e f h : Int) (lf : Bool) (es : List E) (ks : List K) (A : Option Addr) (cap : Nat) (A' : Option Addr) (cap' : Nat) (w : World) (hv : Es w w.heap.size es A cap) (hk : Ks w w.heap.size ks A' cap') :
    Calls Try.prog 66 #[.agg #[.int .i64 a, .int .i64 b, .int .i64 c, .int .i64 d, .int .i64 e, .int .i64 f, .int .i64 h], .agg #[.bool lf, .slice A es.length cap, .slice A' ks.length cap']] w fun x w' => x = .returned (.int .i64 (ndbad a b c d e f h lf es ks)) ∧ Below w.heap.size w w' := by
  have I0 := Bn.new w a b c d e f h lf (.slice A es.length cap) (.slice A' ks.length cap')
  by_cases g : ok a b c d e f h
  · cases lf with
    | true =>
      rw [show ndbad a b c d e f h true es ks = if 0 < ks.length ∨ 4 < es.length then 60 else ebad a b c d e f h none es by unfold ndbad; rw [if_pos g, if_pos rfl]]
      have hc := fun wr (hb : Below w.heap.size w wr) => refLeaf_any a b c d e f h true es ks A cap A' cap' wr (hv.at_world hb) (hk.at_world hb)
      generalize (if 0 < ks.length ∨ 4 < es.length then 60 else ebad a b c d e f h none es) = n at hc ⊢
      generalize es.length = ne at I0 hc ⊢
      generalize ks.length = nk at I0 hc ⊢
      go_enter Try.func66, Try.ntmps66
      go_wp2_with fail
      refine (refRight_ok _ _ _ _ _ _ _ _ g).mono ?_
      rintro x w1 ⟨rfl, hb1⟩
      have I1 := I0.next hb1
      clear hb1 I0
      obtain ⟨⟨⟨c0, c1, c2, c3, c4, c5, c6⟩, l1, l2, b1⟩, ⟨n0, n1, n2⟩, l3⟩ := id I1
      go_wp2_with fail
      refine (hc _ b1).mono ?_
      rintro x w2 ⟨rfl, hb2⟩
      have I2 := I1.next hb2
      go_wp2_with fail
      go_ret
      exact ⟨rfl, I2.below⟩
    | false =>
      rw [show ndbad a b c d e f h false es ks = if 0 < es.length ∨ ks.length < 2 ∨ 4 < ks.length then 60 else kbad b none ks by unfold ndbad; rw [if_pos g, if_neg (by simp)]]
      have hc := fun wr (hb : Below w.heap.size w wr) => refInner_any a b c d e f h false es ks A cap A' cap' wr (hv.at_world hb) (hk.at_world hb)
      generalize (if 0 < es.length ∨ ks.length < 2 ∨ 4 < ks.length then 60 else kbad b none ks) = n at hc ⊢
      generalize es.length = ne at I0 hc ⊢
      generalize ks.length = nk at I0 hc ⊢
      go_enter Try.func66, Try.ntmps66
      go_wp2_with fail
      refine (refRight_ok _ _ _ _ _ _ _ _ g).mono ?_
      rintro x w1 ⟨rfl, hb1⟩
      have I1 := I0.next hb1
      clear hb1 I0
      obtain ⟨⟨⟨c0, c1, c2, c3, c4, c5, c6⟩, l1, l2, b1⟩, ⟨n0, n1, n2⟩, l3⟩ := id I1
      go_wp2_with fail
      refine (hc _ b1).mono ?_
      rintro x w2 ⟨rfl, hb2⟩
      have I2 := I1.next hb2
      go_wp2_with fail
      go_ret
      exact ⟨rfl, I2.below⟩
  · rw [show ndbad a b c d e f h lf es ks = 40 by unfold ndbad; rw [if_neg g]]
    go_enter Try.func66, Try.ntmps66
    go_wp2_with fail
    refine (refRight_no _ _ _ _ _ _ _ _ g).mono ?_
    rintro x w1 ⟨rfl, hb1⟩
    have I1 := I0.next hb1
    clear hb1 I0
    go_wp2_with fail
    go_ret
    exact ⟨rfl, I1.below⟩

end Go.Proofs.Ytoenkkbcpafanaa.nodes
