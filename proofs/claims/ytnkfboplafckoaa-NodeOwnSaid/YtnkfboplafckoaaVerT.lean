/- What package entry's own calls answer: tooBig, judge, rightOrNew, Right, Last, At. -/
import Derived.Test.YtnkfboplafckoaaVerFK


namespace Go.Proofs.Ytnkfboplafckoaa.vers
set_option linter.unusedVariables false
set_option linter.unusedSimpArgs false
open Go.RowKit Go.Proofs.Ytnkfboplafckoaa.base Go.Proofs.Ytnkfboplafckoaa.quotas

def tb (c d : Int) (v t : ByteArray) : Bool := decide (c < v.size) || decide (d < t.size)
theorem tb_yes1 {c d : Int} {v t : ByteArray} (h : c < (v.size : Int)) : tb c d v t = true := by unfold tb; rw [decide_eq_true h]; rfl
theorem tb_yes2 {c d : Int} {v t : ByteArray} (h : d < (t.size : Int)) : tb c d v t = true := by unfold tb; rw [decide_eq_true h, Bool.or_true]
theorem tb_no {c d : Int} {v t : ByteArray} (h : ¬ c < (v.size : Int)) (k : ¬ d < (t.size : Int)) : tb c d v t = false := by unfold tb; rw [decide_eq_false h, decide_eq_false k]; rfl
theorem tb_iff {c d : Int} {v t : ByteArray} : tb c d v t = true ↔ (c < (v.size : Int) ∨ d < (t.size : Int)) := by unfold tb; simp
theorem tb_not {c d : Int} {v t : ByteArray} : tb c d v t = false ↔ ¬ (c < (v.size : Int) ∨ d < (t.size : Int)) := by rw [← tb_iff]; simp

set_option maxRecDepth 100000 in
set_option maxHeartbeats 400000 in
theorem tooBig_any (a b c d e f h : Int) (v t : ByteArray) (w : World) :
    Calls Try.prog 118 #[.agg #[.int .i64 a, .int .i64 b, .int .i64 c, .int .i64 d, .int .i64 e, .int .i64 f, .int .i64 h], .string v, .string t] w fun x w' => x = .returned (.bool (tb c d v t)) ∧ Below w.heap.size w w' := by
  by_cases g1 : c < (v.size : Int)
  · have d1 : decide (c < (v.size : Int)) = true := decide_eq_true g1
    rw [tb_yes1 g1]
    clear g1
    go_enter Try.func118, Try.ntmps118
    go_wp2_with fail
    go_ret
    exact ⟨rfl, (Below.refl _ _).alloc (Nat.le_refl _) _⟩
  · have d1 : decide (c < (v.size : Int)) = false := decide_eq_false g1
    by_cases g2 : d < (t.size : Int)
    · have d2 : decide (d < (t.size : Int)) = true := decide_eq_true g2
      rw [tb_yes2 g2]
      clear g1 g2
      go_enter Try.func118, Try.ntmps118
      go_wp2_with fail
      go_ret
      exact ⟨rfl, (Below.refl _ _).alloc (Nat.le_refl _) _⟩
    · have d2 : decide (d < (t.size : Int)) = false := decide_eq_false g2
      rw [tb_no g1 g2]
      clear g1 g2
      go_enter Try.func118, Try.ntmps118
      go_wp2_with fail
      go_ret
      exact ⟨rfl, (Below.refl _ _).alloc (Nat.le_refl _) _⟩

/-- judge, at a round's head: so far nothing is wrong -/
def JHead (w : World) (a b c d e f h : Int) (l : List V) (x y : Value) (wr : World) : Prop :=
  ∃ j : Nat, j ≤ l.length ∧ x = .int .i64 (before l j) ∧ y = .int .i64 j ∧ Hid (vbad c d 0 l = vbad c d (before l j) (l.drop j)) ∧ In7 w w.heap.size a b c d e f h wr

set_option maxRecDepth 100000 in
set_option maxHeartbeats 1000000 in
theorem judge_any (a b c d e f h : Int) (l : List V) (A : Option Addr) (cap : Nat) (w : World) (hv : Vs w w.heap.size l A cap) :
    Calls Try.prog 113 #[.agg #[.int .i64 a, .int .i64 b, .int .i64 c, .int .i64 d, .int .i64 e, .int .i64 f, .int .i64 h], .slice A l.length cap] w fun x w' => x = .returned (.int .i64 (vbad c d 0 l)) ∧ Below w.heap.size w w' := by
  have hlen := len_in hv
  have I0 := In7.new w a b c d e f h
  go_enter Try.func113, Try.ntmps113
  go_wp2_with fail
  go_loopw [5, 10] (fun x y wr => JHead w a b c d e f h l x y wr) (fun _ y _ => l.length - (intOf y).toNat)
  case atStart => exact ⟨0, Nat.zero_le _, by rw [before_zero], rfl, lay (by rw [before_zero]; rfl), I0⟩
  case round =>
    obtain ⟨j, hj, rfl, rfl, hV, I2⟩ := hrel
    clear I0
    obtain ⟨⟨c0, c1, c2, c3, c4, c5, c6⟩, l1, l2, b1⟩ := id I2
    by_cases hlt : j < l.length
    · obtain ⟨bk, off, rfl, hbk, v0, v1, v2⟩ := (hv.below b1).at_ hlt
      have hs2 := before_succ l hlt
      have hva := lay (vbad_at c d (before l j) l hlt)
      generalize hbp : before l j = p at hV hva ⊢
      clear hbp
      have HS2 := lay hs2
      clear hs2
      by_cases g1 : l[j].n ≤ p
      · have d1 : decide (l[j].n ≤ p) = true := decide_eq_true g1
        have hr := lay (hV.out.trans (hva.out.trans (if_pos (Or.inl g1))))
        clear g1
        go_wp2_with fail
        go_ret
        exact ⟨ret_int hr.out.symm, (I2.alloc _).2.2.2⟩
      · have d1 : decide (l[j].n ≤ p) = false := decide_eq_false g1
        by_cases g2 : (1073741824 : Int) < l[j].n
        · have d2 : decide ((1073741824 : Int) < l[j].n) = true := decide_eq_true g2
          have hr := lay (hV.out.trans (hva.out.trans (if_pos (Or.inr g2))))
          clear g1 g2
          go_wp2_with fail
          go_ret
          exact ⟨ret_int hr.out.symm, (I2.alloc _).2.2.2⟩
        · have d2 : decide ((1073741824 : Int) < l[j].n) = false := decide_eq_false g2
          have hn : Hid (¬ (l[j].n ≤ p ∨ (1073741824 : Int) < l[j].n)) := lay (by omega)
          clear g1 g2
          go_wp2_with fail
          refine (tooBig_any _ _ _ _ _ _ _ _ _ _).mono ?_
          rintro x w1 ⟨rfl, hb1⟩
          have I3 := (I2.alloc _).next hb1
          have hz := hb1.size
          simp only [World.size_alloc] at hz hb1
          have hq : w1.cell? ⟨wr.heap.size, 0, none⟩ = some (.int .i64 l[j].n) := by
            rw [hb1.cell (by simp)]
            exact (Blk.new wr 55 #[.int .i64 l[j].n, .string l[j].v, .string l[j].t]).cell 0
          cases g3 : tb c d l[j].v l[j].t
          · have hV2 : Hid (vbad c d 0 l = vbad c d (before l (j + 1)) (l.drop (j + 1))) := lay (by
              rw [hV.out, hva.out, if_neg hn.out, if_neg (tb_not.1 g3), HS2.out])
            clear g3 hb1
            go_wp2_with fail
            exact ⟨⟨j + 1, hlt, by rw [HS2.out], by go_num, hV2, I3⟩, by simp [intOf]; omega⟩
          · have hr := lay (hV.out.trans (hva.out.trans ((if_neg hn.out).trans (if_pos (tb_iff.1 g3)))))
            clear g3 hb1
            go_wp2_with fail
            go_ret
            exact ⟨ret_int hr.out.symm, I3.2.2.2⟩
    · have hr := lay (hV.out.trans (vbad_end c d _ l (by omega)))
      go_wp2_with fail
      go_ret
      exact ⟨ret_int hr.out.symm, b1⟩

set_option maxRecDepth 100000 in
set_option maxHeartbeats 1000000 in
theorem rightOrNew_any (a b c d e f h : Int) (s : ByteArray) (l : List V) (A : Option Addr) (cap : Nat) (w : World) (hv : Vs w w.heap.size l A cap) :
    Calls Try.prog 93 #[.agg #[.int .i64 a, .int .i64 b, .int .i64 c, .int .i64 d, .int .i64 e, .int .i64 f, .int .i64 h], .agg #[.string s, .slice A l.length cap]] w fun x w' => x = .returned (.int .i64 (nbad a b c d e f h s l)) ∧ Below w.heap.size w w' := by
  have hlen := len_in hv
  by_cases hk : ok a b c d e f h
  · rw [nbad_yes hk]
    by_cases h1 : s.size = 0
    · rw [if_pos h1]
      have hs0 := empty_yes h1
      clear h1
      go_enter Try.func93, Try.ntmps93
      go_wp2_with (go_at_call 28; refine (right_ok _ _ _ _ _ _ _ _ hk).mono ?_; rintro x w1 ⟨rfl, hb1⟩; have I1 := (Bx.new w a b c d e f h s (.slice A l.length cap)).next hb1; clear hb1; obtain ⟨⟨⟨c0, c1, c2, c3, c4, c5, c6⟩, l1, l2, b1⟩, ⟨e0, e1⟩, l3⟩ := id I1)
      go_ret
      exact ⟨rfl, b1⟩
    · rw [if_neg h1]
      have hs0 := empty_no h1
      clear h1
      by_cases h2 : b < (s.size : Int)
      · rw [if_pos h2]
        have d2 : decide (b < (s.size : Int)) = true := decide_eq_true h2
        clear h2
        go_enter Try.func93, Try.ntmps93
        go_wp2_with (go_at_call 28; refine (right_ok _ _ _ _ _ _ _ _ hk).mono ?_; rintro x w1 ⟨rfl, hb1⟩; have I1 := (Bx.new w a b c d e f h s (.slice A l.length cap)).next hb1; clear hb1; obtain ⟨⟨⟨c0, c1, c2, c3, c4, c5, c6⟩, l1, l2, b1⟩, ⟨e0, e1⟩, l3⟩ := id I1)
        go_ret
        exact ⟨rfl, b1⟩
      · rw [if_neg h2]
        have d2 : decide (b < (s.size : Int)) = false := decide_eq_false h2
        clear h2
        by_cases h3 : e < (l.length : Int)
        · rw [if_pos h3]
          have d3 : decide (e < (l.length : Int)) = true := decide_eq_true h3
          clear h3
          go_enter Try.func93, Try.ntmps93
          go_wp2_with (go_at_call 28; refine (right_ok _ _ _ _ _ _ _ _ hk).mono ?_; rintro x w1 ⟨rfl, hb1⟩; have I1 := (Bx.new w a b c d e f h s (.slice A l.length cap)).next hb1; clear hb1; obtain ⟨⟨⟨c0, c1, c2, c3, c4, c5, c6⟩, l1, l2, b1⟩, ⟨e0, e1⟩, l3⟩ := id I1)
          go_ret
          exact ⟨rfl, b1⟩
        · rw [if_neg h3]
          have d3 : decide (e < (l.length : Int)) = false := decide_eq_false h3
          clear h3
          go_enter Try.func93, Try.ntmps93
          go_wp2_with (go_at_call 28; refine (right_ok _ _ _ _ _ _ _ _ hk).mono ?_; rintro x w1 ⟨rfl, hb1⟩; have I1 := (Bx.new w a b c d e f h s (.slice A l.length cap)).next hb1; clear hb1; obtain ⟨⟨⟨c0, c1, c2, c3, c4, c5, c6⟩, l1, l2, b1⟩, ⟨e0, e1⟩, l3⟩ := id I1)
          refine (judge_any _ _ _ _ _ _ _ _ _ _ _ (hv.at_world b1)).mono ?_
          rintro x w2 ⟨rfl, hb2⟩
          have I2 := I1.next hb2
          clear hb2
          go_wp2_with fail
          go_ret
          exact ⟨rfl, I2.below⟩
  · rw [nbad_no hk]
    go_enter Try.func93, Try.ntmps93
    go_wp2_with (go_at_call 28; refine (right_no _ _ _ _ _ _ _ _ hk).mono ?_; rintro x w1 ⟨rfl, hb1⟩; have I1 := (Bx.new w a b c d e f h s (.slice A l.length cap)).next hb1; clear hb1; obtain ⟨⟨⟨c0, c1, c2, c3, c4, c5, c6⟩, l1, l2, b1⟩, ⟨e0, e1⟩, l3⟩ := id I1)
    go_ret
    exact ⟨rfl, I1.below⟩

set_option maxRecDepth 100000 in
set_option maxHeartbeats 400000 in
theorem right_any (a b c d e f h : Int) (s : ByteArray) (l : List V) (A : Option Addr) (cap : Nat) (w : World) (hv : Vs w w.heap.size l A cap) :
    Calls Try.prog 60 #[.agg #[.int .i64 a, .int .i64 b, .int .i64 c, .int .i64 d, .int .i64 e, .int .i64 f, .int .i64 h], .agg #[.string s, .slice A l.length cap]] w fun x w' => x = .returned (.int .i64 (rb (nbad a b c d e f h s l) l)) ∧ Below w.heap.size w w' := by
  have hlen := len_in hv
  have hc := rightOrNew_any a b c d e f h s l A cap _ ((hv.below (Bx.new w a b c d e f h s (.slice A l.length cap)).below).more (Bx.new w a b c d e f h s (.slice A l.length cap)).below.size)
  generalize nbad a b c d e f h s l = n at hc ⊢
  by_cases hn : n = 0
  · have d1 : (n == 0) = true := by simp [hn]
    by_cases hl : l.length = 0
    · have d2 : ((l.length : Int) == 0) = true := by simp [hl]
      have hr : rb n l = 50 := by unfold rb; rw [if_pos ⟨hn, hl⟩]
      rw [hr]
      clear hr hn hl
      go_enter Try.func60, Try.ntmps60
      go_wp2_with fail
      refine hc.mono ?_
      rintro x w1 ⟨rfl, hb1⟩
      have I1 := (Bx.new w a b c d e f h s (.slice A l.length cap)).next hb1
      clear hb1
      obtain ⟨⟨⟨c0, c1, c2, c3, c4, c5, c6⟩, l1, l2, b1⟩, ⟨e0, e1⟩, l3⟩ := id I1
      go_wp2_with fail
      go_ret
      exact ⟨rfl, b1⟩
    · have d2 : ((l.length : Int) == 0) = false := beq_eq_false_iff_ne.2 (by omega)
      have hr : rb n l = n := by unfold rb; rw [if_neg (fun h => hl h.2)]
      rw [hr]
      have HN := lay hn
      clear hr hn
      go_enter Try.func60, Try.ntmps60
      go_wp2_with fail
      refine hc.mono ?_
      rintro x w1 ⟨rfl, hb1⟩
      have I1 := (Bx.new w a b c d e f h s (.slice A l.length cap)).next hb1
      clear hb1
      obtain ⟨⟨⟨c0, c1, c2, c3, c4, c5, c6⟩, l1, l2, b1⟩, ⟨e0, e1⟩, l3⟩ := id I1
      go_wp2_with fail
      go_ret
      exact ⟨ret_int HN.out.symm, b1⟩
  · have d1 : (n == 0) = false := by simp [hn]
    have hr : rb n l = n := by unfold rb; rw [if_neg (fun h => hn h.1)]
    rw [hr]
    clear hr hn
    go_enter Try.func60, Try.ntmps60
    go_wp2_with fail
    refine hc.mono ?_
    rintro x w1 ⟨rfl, hb1⟩
    have I1 := (Bx.new w a b c d e f h s (.slice A l.length cap)).next hb1
    clear hb1
    obtain ⟨⟨⟨c0, c1, c2, c3, c4, c5, c6⟩, l1, l2, b1⟩, ⟨e0, e1⟩, l3⟩ := id I1
    go_wp2_with fail
    go_ret
    exact ⟨rfl, b1⟩

theorem rightIs : RightIs := fun a b c d e f h s l A cap w hv => right_any a b c d e f h s l A cap w hv
end Go.Proofs.Ytnkfboplafckoaa.vers
