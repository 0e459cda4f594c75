/- What package entry's own calls answer: tooBig, judge, rightOrNew, Right, Last, At. -/
import Derived.Test.YtolngibmfffjcaaVerK


namespace Go.Proofs.Ytolngibmfffjcaa.vers
set_option linter.unusedVariables false
set_option linter.unusedSimpArgs false
open Go.RowKit Go.Proofs.Ytolngibmfffjcaa.base Go.Proofs.Ytolngibmfffjcaa.quotas

def tb (c d : Int) (v t : ByteArray) : Bool := decide (c < v.size) || decide (d < t.size)
theorem tb_yes1 {c d : Int} {v t : ByteArray} (h : c < (v.size : Int)) : tb c d v t = true := by unfold tb; rw [decide_eq_true h]; rfl
theorem tb_yes2 {c d : Int} {v t : ByteArray} (h : d < (t.size : Int)) : tb c d v t = true := by unfold tb; rw [decide_eq_true h, Bool.or_true]
theorem tb_no {c d : Int} {v t : ByteArray} (h : ¬ c < (v.size : Int)) (k : ¬ d < (t.size : Int)) : tb c d v t = false := by unfold tb; rw [decide_eq_false h, decide_eq_false k]; rfl
theorem tb_iff {c d : Int} {v t : ByteArray} : tb c d v t = true ↔ (c < (v.size : Int) ∨ d < (t.size : Int)) := by unfold tb; simp
theorem tb_not {c d : Int} {v t : ByteArray} : tb c d v t = false ↔ ¬ (c < (v.size : Int) ∨ d < (t.size : Int)) := by rw [← tb_iff]; simp

set_option maxRecDepth 100000 in
set_option maxHeartbeats 400000 in
theorem tooBig_any (a b c d e f h : Int) (v t : ByteArray) (w : World) :
    Calls Try.prog 38 #[.agg #[.int .i64 a, .int .i64 b, .int .i64 c, .int .i64 d, .int .i64 e, .int .i64 f, .int .i64 h], .string v, .string t] w fun x w' => x = .returned (.bool (tb c d v t)) ∧ Below w.heap.size w w' := by
  by_cases g1 : c < (v.size : Int)
  · have d1 : decide (c < (v.size : Int)) = true := decide_eq_true g1
    rw [tb_yes1 g1]
    clear g1
    go_enter Try.func38, Try.ntmps38
    go_wp2_with fail
    go_ret
    exact ⟨rfl, (Below.refl _ _).alloc (Nat.le_refl _) _⟩
  · have d1 : decide (c < (v.size : Int)) = false := decide_eq_false g1
    by_cases g2 : d < (t.size : Int)
    · have d2 : decide (d < (t.size : Int)) = true := decide_eq_true g2
      rw [tb_yes2 g2]
      clear g1 g2
      go_enter Try.func38, Try.ntmps38
      go_wp2_with fail
      go_ret
      exact ⟨rfl, (Below.refl _ _).alloc (Nat.le_refl _) _⟩
    · have d2 : decide (d < (t.size : Int)) = false := decide_eq_false g2
      rw [tb_no g1 g2]
      clear g1 g2
      go_enter Try.func38, Try.ntmps38
      go_wp2_with fail
      go_ret
      exact ⟨rfl, (Below.refl _ _).alloc (Nat.le_refl _) _⟩

/-- judge, at a round's head: so far nothing is wrong -/
def JHead (w : World) (a b c d e f h : Int) (l : List V) (x y : Value) (wr : World) : Prop :=
  ∃ j : Nat, j ≤ l.length ∧ x = .int .i64 (before l j) ∧ y = .int .i64 j ∧ Hid (vbad c d 0 l = vbad c d (before l j) (l.drop j)) ∧ In7 w w.heap.size a b c d e f h wr

set_option maxRecDepth 100000 in
set_option maxHeartbeats 1000000 in
theorem judge_any (a b c d e f h : Int) (l : List V) (A : Option Addr) (cap : Nat) (w : World) (hv : Vs w w.heap.size l A cap) :
    Calls Try.prog 37 #[.agg #[.int .i64 a, .int .i64 b, .int .i64 c, .int .i64 d, .int .i64 e, .int .i64 f, .int .i64 h], .slice A l.length cap] w fun x w' => x = .returned (.int .i64 (vbad c d 0 l)) ∧ Below w.heap.size w w' := by
  have hlen := len_in hv
  have I0 := In7.new w a b c d e f h
  go_enter Try.func37, Try.ntmps37
  go_wp2_with fail
  go_loopw [5, 10] (fun x y wr => JHead w a b c d e f h l x y wr) (fun _ y _ => l.length - (intOf y).toNat)
  case atStart => exact ⟨0, Nat.zero_le _, by rw [before_zero], rfl, lay (by rw [before_zero]; rfl), I0⟩
  case round =>
    obtain ⟨j, hj, rfl, rfl, hV, I2⟩ := hrel
    clear I0
    obtain ⟨⟨c0, c1, c2, c3, c4, c5, c6⟩, l1, l2, b1⟩ := id I2
    by_cases hlt : j < l.length
    · obtain ⟨bk, off, rfl, hbk, v0, v1, v2⟩ := (hv.below b1).at_ hlt
      have hs2 := before_succ l hlt
      have hva := lay (vbad_at c d (before l j) l hlt)
      generalize hbp : before l j = p at hV hva ⊢
      clear hbp
      have HS2 := lay hs2
      clear hs2
      by_cases g1 : l[j].n ≤ p
      · have d1 : decide (l[j].n ≤ p) = true := decide_eq_true g1
        have hr := lay (hV.out.trans (hva.out.trans (if_pos (Or.inl g1))))
        clear g1
        go_wp2_with fail
        go_ret
        exact ⟨ret_int hr.out.symm, (I2.alloc _).2.2.2⟩
      · have d1 : decide (l[j].n ≤ p) = false := decide_eq_false g1
        by_cases g2 : (1073741824 : Int) < l[j].n
        · have d2 : decide ((1073741824 : Int) < l[j].n) = true := decide_eq_true g2
          have hr := lay (hV.out.trans (hva.out.trans (if_pos (Or.inr g2))))
          clear g1 g2
          go_wp2_with fail
          go_ret
          exact ⟨ret_int hr.out.symm, (I2.alloc _).2.2.2⟩
        · have d2 : decide ((1073741824 : Int) < l[j].n) = false := decide_eq_false g2
          have hn : Hid (¬ (l[j].n ≤ p ∨ (1073741824 : Int) < l[j].n)) := lay (by omega)
          clear g1 g2
          go_wp2_with fail
          refine (tooBig_any _ _ _ _ _ _ _ _ _ _).mono ?_
          rintro x w1 ⟨rfl, hb1⟩
          have I3 := (I2.alloc _).next hb1
          have hz := hb1.size
          simp only [World.size_alloc] at hz hb1
          have hq : w1.cell? ⟨wr.heap.size, 0, none⟩ = some (.int .i64 l[j].n) := by
            rw [hb1.cell (by simp)]
            exact (Blk.new wr 39 #[.int .i64 l[j].n, .string l[j].v, .string l[j].t]).cell 0
          cases g3 : tb c d l[j].v l[j].t
          · have hV2 : Hid (vbad c d 0 l = vbad c d (before l (j + 1)) (l.drop (j + 1))) := lay (by
              rw [hV.out, hva.out, if_neg hn.out, if_neg (tb_not.1 g3), HS2.out])
            clear g3 hb1
            go_wp2_with fail
            exact ⟨⟨j + 1, hlt, by rw [HS2.out], by go_num, hV2, I3⟩, by simp [intOf]; omega⟩
          · have hr := lay (hV.out.trans (hva.out.trans ((if_neg hn.out).trans (if_pos (tb_iff.1 g3)))))
            clear g3 hb1
            go_wp2_with fail
            go_ret
            exact ⟨ret_int hr.out.symm, I3.2.2.2⟩
    · have hr := lay (hV.out.trans (vbad_end c d _ l (by omega)))
      go_wp2_with fail
      go_ret
      exact ⟨ret_int hr.out.symm, b1⟩

set_option maxRecDepth 100000 in
set_option maxHeartbeats 1000000 in
theorem rightOrNew_any (a b c d e f h : Int) (s : ByteArray) (l : List V) (A : Option Addr) (cap : Nat) (w : World) (hv : Vs w w.heap.size l A cap) :
    Calls Try.prog 28 #[.agg #[.int .i64 a, .int .i64 b, .int .i64 c, .int .i64 d, .int .i64 e, .int .i64 f, .int .i64 h], .agg #[.string s, .slice A l.length cap]] w fun x w' => x = .returned (.int .i64 (nbad a b c d e f h s l)) ∧ Below w.heap.size w w' := by
  have hlen := len_in hv
  by_cases hk : ok a b c d e f h
  · rw [nbad_yes hk]
    by_cases h1 : s.size = 0
    · rw [if_pos h1]
      have hs0 := empty_yes h1
      clear h1
      go_enter Try.func28, Try.ntmps28
      go_wp2_with (go_at_call 36; refine (right_ok _ _ _ _ _ _ _ _ hk).mono ?_; rintro x w1 ⟨rfl, hb1⟩; have I1 := (Bx.new w a b c d e f h s (.slice A l.length cap)).next hb1; clear hb1; obtain ⟨⟨⟨c0, c1, c2, c3, c4, c5, c6⟩, l1, l2, b1⟩, ⟨e0, e1⟩, l3⟩ := id I1)
      go_ret
      exact ⟨rfl, b1⟩
    · rw [if_neg h1]
      have hs0 := empty_no h1
      clear h1
      by_cases h2 : b < (s.size : Int)
      · rw [if_pos h2]
        have d2 : decide (b < (s.size : Int)) = true := decide_eq_true h2
        clear h2
        go_enter Try.func28, Try.ntmps28
        go_wp2_with (go_at_call 36; refine (right_ok _ _ _ _ _ _ _ _ hk).mono ?_; rintro x w1 ⟨rfl, hb1⟩; have I1 := (Bx.new w a b c d e f h s (.slice A l.length cap)).next hb1; clear hb1; obtain ⟨⟨⟨c0, c1, c2, c3, c4, c5, c6⟩, l1, l2, b1⟩, ⟨e0, e1⟩, l3⟩ := id I1)
        go_ret
        exact ⟨rfl, b1⟩
      · rw [if_neg h2]
        have d2 : decide (b < (s.size : Int)) = false := decide_eq_false h2
        clear h2
        by_cases h3 : e < (l.length : Int)
        · rw [if_pos h3]
          have d3 : decide (e < (l.length : Int)) = true := decide_eq_true h3
          clear h3
          go_enter Try.func28, Try.ntmps28
          go_wp2_with (go_at_call 36; refine (right_ok _ _ _ _ _ _ _ _ hk).mono ?_; rintro x w1 ⟨rfl, hb1⟩; have I1 := (Bx.new w a b c d e f h s (.slice A l.length cap)).next hb1; clear hb1; obtain ⟨⟨⟨c0, c1, c2, c3, c4, c5, c6⟩, l1, l2, b1⟩, ⟨e0, e1⟩, l3⟩ := id I1)
          go_ret
          exact ⟨rfl, b1⟩
        · rw [if_neg h3]
          have d3 : decide (e < (l.length : Int)) = false := decide_eq_false h3
          clear h3
          go_enter Try.func28, Try.ntmps28
          go_wp2_with (go_at_call 36; refine (right_ok _ _ _ _ _ _ _ _ hk).mono ?_; rintro x w1 ⟨rfl, hb1⟩; have I1 := (Bx.new w a b c d e f h s (.slice A l.length cap)).next hb1; clear hb1; obtain ⟨⟨⟨c0, c1, c2, c3, c4, c5, c6⟩, l1, l2, b1⟩, ⟨e0, e1⟩, l3⟩ := id I1)
          refine (judge_any _ _ _ _ _ _ _ _ _ _ _ (hv.at_world b1)).mono ?_
          rintro x w2 ⟨rfl, hb2⟩
          have I2 := I1.next hb2
          clear hb2
          go_wp2_with fail
          go_ret
          exact ⟨rfl, I2.below⟩
  · rw [nbad_no hk]
    go_enter Try.func28, Try.ntmps28
    go_wp2_with (go_at_call 36; refine (right_no _ _ _ _ _ _ _ _ hk).mono ?_; rintro x w1 ⟨rfl, hb1⟩; have I1 := (Bx.new w a b c d e f h s (.slice A l.length cap)).next hb1; clear hb1; obtain ⟨⟨⟨c0, c1, c2, c3, c4, c5, c6⟩, l1, l2, b1⟩, ⟨e0, e1⟩, l3⟩ := id I1)
    go_ret
    exact ⟨rfl, I1.below⟩

set_option maxRecDepth 100000 in
set_option maxHeartbeats 400000 in
theorem right_any (a b c d e f h : Int) (s : ByteArray) (l : List V) (A : Option Addr) (cap : Nat) (w : World) (hv : Vs w w.heap.size l A cap) :
    Calls Try.prog 11 #[.agg #[.int .i64 a, .int .i64 b, .int .i64 c, .int .i64 d, .int .i64 e, .int .i64 f, .int .i64 h], .agg #[.string s, .slice A l.length cap]] w fun x w' => x = .returned (.int .i64 (rb (nbad a b c d e f h s l) l)) ∧ Below w.heap.size w w' := by
  have hlen := len_in hv
  have hc := rightOrNew_any a b c d e f h s l A cap _ ((hv.below (Bx.new w a b c d e f h s (.slice A l.length cap)).below).more (Bx.new w a b c d e f h s (.slice A l.length cap)).below.size)
  generalize nbad a b c d e f h s l = n at hc ⊢
  by_cases hn : n = 0
  · have d1 : (n == 0) = true := by simp [hn]
    by_cases hl : l.length = 0
    · have d2 : ((l.length : Int) == 0) = true := by simp [hl]
      have hr : rb n l = 50 := by unfold rb; rw [if_pos ⟨hn, hl⟩]
      rw [hr]
      clear hr hn hl
      go_enter Try.func11, Try.ntmps11
      go_wp2_with fail
      refine hc.mono ?_
      rintro x w1 ⟨rfl, hb1⟩
      have I1 := (Bx.new w a b c d e f h s (.slice A l.length cap)).next hb1
      clear hb1
      obtain ⟨⟨⟨c0, c1, c2, c3, c4, c5, c6⟩, l1, l2, b1⟩, ⟨e0, e1⟩, l3⟩ := id I1
      go_wp2_with fail
      go_ret
      exact ⟨rfl, b1⟩
    · have d2 : ((l.length : Int) == 0) = false := beq_eq_false_iff_ne.2 (by omega)
      have hr : rb n l = n := by unfold rb; rw [if_neg (fun h => hl h.2)]
      rw [hr]
      have HN := lay hn
      clear hr hn
      go_enter Try.func11, Try.ntmps11
      go_wp2_with fail
      refine hc.mono ?_
      rintro x w1 ⟨rfl, hb1⟩
      have I1 := (Bx.new w a b c d e f h s (.slice A l.length cap)).next hb1
      clear hb1
      obtain ⟨⟨⟨c0, c1, c2, c3, c4, c5, c6⟩, l1, l2, b1⟩, ⟨e0, e1⟩, l3⟩ := id I1
      go_wp2_with fail
      go_ret
      exact ⟨ret_int HN.out.symm, b1⟩
  · have d1 : (n == 0) = false := by simp [hn]
    have hr : rb n l = n := by unfold rb; rw [if_neg (fun h => hn h.1)]
    rw [hr]
    clear hr hn
    go_enter Try.func11, Try.ntmps11
    go_wp2_with fail
    refine hc.mono ?_
    rintro x w1 ⟨rfl, hb1⟩
    have I1 := (Bx.new w a b c d e f h s (.slice A l.length cap)).next hb1
    clear hb1
    obtain ⟨⟨⟨c0, c1, c2, c3, c4, c5, c6⟩, l1, l2, b1⟩, ⟨e0, e1⟩, l3⟩ := id I1
    go_wp2_with fail
    go_ret
    exact ⟨rfl, b1⟩

set_option maxRecDepth 100000 in
set_option maxHeartbeats 400000 in
theorem last_any (s : ByteArray) (l : List V) (A : Option Addr) (cap : Nat) (w : World) (hv : Vs w w.heap.size l A cap) :
    Calls Try.prog 19 #[.agg #[.string s, .slice A l.length cap]] w fun x w' => x = .returned (.tuple #[(lastV l).1.val, .bool (lastV l).2]) ∧ Below w.heap.size w w' := by
  have hlen := len_in hv
  by_cases hl : l.length = 0
  · have d2 : ((l.length : Int) == 0) = true := by simp [hl]
    have hr : lastV l = (zV, false) := by rw [List.eq_nil_of_length_eq_zero hl]; rfl
    rw [hr]
    clear hr hl
    go_enter Try.func19, Try.ntmps19
    go_wp2_with fail
    refine bodyPost_ret (v := .tuple #[zV.val, .bool false]) (by simp [results, Try.results19, go_sem, zV, V.val]) rfl ⟨rfl, ?_⟩
    exact ((Below.refl _ _).alloc (Nat.le_refl _) _).alloc (by simp) _
  · obtain ⟨k, hk⟩ : ∃ k, l.length = k + 1 := ⟨l.length - 1, by omega⟩
    have d2 : ((l.length : Int) == 0) = false := beq_eq_false_iff_ne.2 (by omega)
    have hr : lastV l = (l[k], true) := by
      unfold lastV
      rw [List.getLast?_eq_getElem?, show l.length - 1 = k by omega, List.getElem?_eq_getElem (by omega)]
    obtain ⟨bk, off, rfl, hbk, v0, v1, v2⟩ := hv.at_ (j := k) (by omega)
    rw [hr]
    clear hr hl
    go_enter Try.func19, Try.ntmps19
    go_wp2_with fail
    refine bodyPost_ret (v := .tuple #[l[k].val, .bool true]) (by simp [results, Try.results19, go_sem, V.val]) rfl ⟨rfl, ?_⟩
    exact ((Below.refl _ _).alloc (Nat.le_refl _) _).alloc (by simp) _

set_option maxRecDepth 100000 in
set_option maxHeartbeats 400000 in
theorem at_any (s : ByteArray) (l : List V) (A : Option Addr) (cap : Nat) (n : Int) (w : World) (hv : Vs w w.heap.size l A cap) :
    Calls Try.prog 21 #[.agg #[.string s, .slice A l.length cap], .int .i64 n] w fun x w' => x = .returned (.tuple #[(atV l n).1.val, .bool (atV l n).2]) ∧ Below w.heap.size w w' := by
  have hlen := len_in hv
  have hnew := Blk.new (w.alloc (.cells #[.string s, .slice A l.length cap] 26)) 39 #[.int .i64 0, .string ⟨#[]⟩, .string ⟨#[]⟩]
  rw [World.size_alloc] at hnew
  have heb := ebox w s (.slice A l.length cap)
  go_enter Try.func21, Try.ntmps21
  go_wp2_with fail
  go_loopw [11] (fun x wr => AHead w l n s (.slice A l.length cap) x wr) (fun x _ => l.length - (intOf x).toNat)
  case atStart =>
    refine ⟨0, Nat.zero_le _, rfl, lay rfl, ?_, hnew, by simp, ((Below.refl _ _).alloc (Nat.le_refl _) _).alloc (by simp) _⟩
    refine ⟨?_, ?_⟩
    · rw [World.cell?_alloc_lt _ _ _ (by simp)]; exact heb.1
    · rw [World.cell?_alloc_lt _ _ _ (by simp)]; exact heb.2
  case round =>
    obtain ⟨j, hj, rfl, hV, ⟨e0, e1⟩, hz, hs, hb⟩ := hrel
    clear hnew heb
    have z0 := hz.cell 0
    have z1 := hz.cell 1
    have z2 := hz.cell 2
    simp at z0 z1 z2
    have f0 := hz.frozen 0
    have f1 := hz.frozen 1
    have f2 := hz.frozen 2
    by_cases hlt : j < l.length
    · obtain ⟨bk, off, rfl, hbk, v0, v1, v2⟩ := (hv.below hb).at_ hlt
      by_cases hn : l[j].n = n
      · have d1 : (l[j].n == n) = true := by simpa using hn
        have hr : Hid (atV l n = (l[j], true)) := lay (hV.out.trans ((atV_drop l n hlt).trans (by rw [d1]; rfl)))
        clear hn
        go_wp2_with fail
        refine bodyPost_ret (v := .tuple #[l[j].val, .bool true]) (by simp [results, Try.results21, go_sem, V.val, z0, z1, z2, hs]) rfl ⟨by rw [hr.out], ?_⟩
        exact (three_below hb (by omega) _ _ _).alloc (by simp; omega) _
      · have d1 : (l[j].n == n) = false := by simpa using hn
        have hV2 := lay (hV.out.trans ((atV_drop l n hlt).trans (by rw [d1]; rfl) : _ = atV (l.drop (j + 1)) n))
        clear hn
        go_wp2_with fail
        refine ⟨⟨j + 1, hlt, by go_num, hV2, ⟨?_, ?_⟩, hz.alloc _, by simp; omega, hb.alloc hb.size _⟩, by simp [intOf]; omega⟩
        · rw [World.cell?_alloc_lt _ _ _ (by simp; omega)]; exact e0
        · rw [World.cell?_alloc_lt _ _ _ (by simp; omega)]; exact e1
    · have hr : Hid (atV l n = (zV, false)) := lay (hV.out.trans (atV_end l n (by omega)))
      go_wp2_with fail
      refine bodyPost_ret (v := .tuple #[zV.val, .bool false]) (by simp [results, Try.results21, go_sem, V.val, zV, z0, z1, z2, hs]) rfl ⟨by rw [hr.out], ?_⟩
      exact three_below hb (by omega) _ _ _

theorem rightIs : RightIs := fun a b c d e f h s l A cap w hv => right_any a b c d e f h s l A cap w hv
theorem lastIs : LastIs := fun s l A cap w hv => last_any s l A cap w hv
theorem atIs : AtIs := fun s l A cap n w hv => at_any s l A cap n w hv
end Go.Proofs.Ytolngibmfffjcaa.vers
