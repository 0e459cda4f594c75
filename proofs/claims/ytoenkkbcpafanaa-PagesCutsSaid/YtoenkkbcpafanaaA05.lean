/- What letheref06's inner, Right and Low answer. -/
import Derived.Test.YtoenkkbcpafanaaA04
import Derived.Laws.StructEq
import Derived.Maps.AppendAt
import Derived.Laws.OwnMore
import Derived.Laws.AppendOwnNone
import Derived.RegionTactic
import Derived.Deep.RegionHeld3
import Derived.Deep.AppendLies


namespace Go.Proofs.Ytoenkkbcpafanaa.nodes
set_option linter.unusedVariables false
set_option linter.unusedSimpArgs false
open Go.RowKit Go.Proofs.Ytoenkkbcpafanaa.base Go.Proofs.Ytoenkkbcpafanaa.quotas Go.Proofs.Ytoenkkbcpafanaa.vers

set_option maxRecDepth 100000 in
set_option maxHeartbeats 1000000 in
theorem inner_bad1 (a b c d e f h : Int) (lf : Bool) (ne nk : Nat) (A : Option Addr) (cap : Nat) (A' : Option Addr) (cap' : Nat) (w : World) (hp : 0 < ne) (hm : ne ≤ 140737488355328) :
    Calls Try.prog 129 #[.agg #[.int .i64 a, .int .i64 b, .int .i64 c, .int .i64 d, .int .i64 e, .int .i64 f, .int .i64 h], .agg #[.bool lf, .slice A ne cap, .slice A' nk cap']] w fun x w' => x = .returned (.int .i64 60) ∧ Below w.heap.size w w' := by
  have I0 := Bn.new w a b c d e f h lf (.slice A ne cap) (.slice A' nk cap')
  have hp1 : (0 : Int) < (ne : Int) := by omega
  go_enter Try.func129, Try.ntmps129
  go_wp2_with fail
  go_ret
  exact ⟨rfl, I0.below⟩

set_option maxRecDepth 100000 in
set_option maxHeartbeats 1000000 in
theorem inner_bad2 (a b c d e f h : Int) (lf : Bool) (nk : Nat) (A : Option Addr) (cap : Nat) (A' : Option Addr) (cap' : Nat) (w : World) (hp : (nk : Int) < 2) :
    Calls Try.prog 129 #[.agg #[.int .i64 a, .int .i64 b, .int .i64 c, .int .i64 d, .int .i64 e, .int .i64 f, .int .i64 h], .agg #[.bool lf, .slice A 0 cap, .slice A' nk cap']] w fun x w' => x = .returned (.int .i64 60) ∧ Below w.heap.size w w' := by
  have I0 := Bn.new w a b c d e f h lf (.slice A 0 cap) (.slice A' nk cap')

  go_enter Try.func129, Try.ntmps129
  go_wp2_with fail
  go_ret
  exact ⟨rfl, I0.below⟩

set_option maxRecDepth 100000 in
set_option maxHeartbeats 1000000 in
theorem inner_bad3 (a b c d e f h : Int) (lf : Bool) (nk : Nat) (A : Option Addr) (cap : Nat) (A' : Option Addr) (cap' : Nat) (w : World) (hp : ¬ (nk : Int) < 2) (hq : (4 : Int) < (nk : Int)) (hm : nk ≤ 140737488355328) :
    Calls Try.prog 129 #[.agg #[.int .i64 a, .int .i64 b, .int .i64 c, .int .i64 d, .int .i64 e, .int .i64 f, .int .i64 h], .agg #[.bool lf, .slice A 0 cap, .slice A' nk cap']] w fun x w' => x = .returned (.int .i64 60) ∧ Below w.heap.size w w' := by
  have I0 := Bn.new w a b c d e f h lf (.slice A 0 cap) (.slice A' nk cap')

  go_enter Try.func129, Try.ntmps129
  go_wp2_with fail
  go_ret
  exact ⟨rfl, I0.below⟩

/-- a round's head of inner: so far nothing is wrong -/
def JHead6 (w : World) (a b c d e f h : Int) (lf : Bool) (ks : List K) (u u' : Value) (x : Value) (wr : World) : Prop :=
  ∃ j : Nat, j ≤ ks.length ∧ x = .int .i64 j ∧ Hid (kbad b none ks = kbad b (aheadK ks j) (ks.drop j)) ∧ Bn w a b c d e f h lf u u' wr

set_option maxRecDepth 100000 in
set_option maxHeartbeats 1000000 in
theorem inner_loop (a b c d e f h : Int) (lf : Bool) (ks : List K) (A : Option Addr) (cap : Nat) (A' : Option Addr) (cap' : Nat) (w : World) (hk : Ks w w.heap.size ks A' cap') (h2 : ¬ (ks.length : Int) < 2) (h4 : ¬ (4 : Int) < (ks.length : Int)) :
    Calls Try.prog 129 #[.agg #[.int .i64 a, .int .i64 b, .int .i64 c, .int .i64 d, .int .i64 e, .int .i64 f, .int .i64 h], .agg #[.bool lf, .slice A 0 cap, .slice A' ks.length cap']] w fun x w' => x = .returned (.int .i64 (kbad b none ks)) ∧ Below w.heap.size w w' := by
  have hlen : ks.length ≤ 140737488355328 := by have := hk.2.1; omega
  have I0 := Bn.new w a b c d e f h lf (.slice A 0 cap) (.slice A' ks.length cap')
  go_enter Try.func129, Try.ntmps129
  go_wp2_with fail
  go_loopw [26] (fun x wr => JHead6 w a b c d e f h lf ks (.slice A 0 cap) (.slice A' ks.length cap') x wr) (fun x _ => ks.length - (intOf x).toNat)
  case atStart => exact ⟨0, Nat.zero_le _, rfl, lay (by rw [aheadK_zero]; rfl), I0⟩
  case round =>
    obtain ⟨j, hj, rfl, hV, I2⟩ := hrel
    clear I0
    obtain ⟨⟨⟨c0, c1, c2, c3, c4, c5, c6⟩, l1, l2, b1⟩, ⟨n0, n1, n2⟩, l3⟩ := id I2
    by_cases hlt : j < ks.length
    · obtain ⟨bk, off, rfl, hbk, e0, e1, e2, e3, e4⟩ := (hk.below b1).at_ hlt
      have hat := lay (kbad_at b (aheadK ks j) ks hlt)
      have hsu := lay (aheadK_succ ks hlt)
      have I3 := I2.alloc (.cells #[.string ks[j].s, .int .u64 (ks[j].k : Int), .int .i64 ks[j].g, .int .i64 ks[j].o, .int .i64 ks[j].n] 162)
      have hbox := Blk.new wr 162 #[.string ks[j].s, .int .u64 (ks[j].k : Int), .int .i64 ks[j].g, .int .i64 ks[j].o, .int .i64 ks[j].n]
      by_cases g1 : ks[j].s.size = 0
      · have hs0 := empty_yes g1
        have hr := lay (hV.out.trans (hat.out.trans (if_pos g1)))
        clear g1 hat
        go_wp2_with fail
        go_ret
        exact ⟨ret_int hr.out.symm, I3.below⟩
      · have hs0 := empty_no g1
        have hat1 := lay (hat.out.trans (if_neg g1))
        clear g1 hat
        by_cases g2 : b < (ks[j].s.size : Int)
        · have d2 : decide (b < (ks[j].s.size : Int)) = true := decide_eq_true g2
          have hr := lay (hV.out.trans (hat1.out.trans (if_pos g2)))
          clear g2 hat1
          go_wp2_with fail
          go_ret
          exact ⟨ret_int hr.out.symm, I3.below⟩
        · have d2 : decide (b < (ks[j].s.size : Int)) = false := decide_eq_false g2
          have hat2 := lay (hat1.out.trans (if_neg g2))
          clear g2 hat1
          by_cases g3 : refOk ks[j].g ks[j].o ks[j].n
          · have hat3 := lay (hat2.out.trans (if_neg (by simpa using g3)))
            have hc := fun w0 => refRef_ok ks[j].k ks[j].g ks[j].o ks[j].n w0 g3
            clear g3 hat2
            go_wp2_with fail
            refine (hc _).mono ?_
            rintro x w1 ⟨rfl, hb1⟩
            have I4 := I3.next hb1
            have hbx := hbox.below hb1 hbox.lt
            have x0 := hbx.cell 0
            simp at x0
            have x9 := hbx.lt
            clear c0 c1 c2 c3 c4 c5 c6 l1 l2 n0 n1 n2 l3 e0 e1 e2 e3 e4 hbox hbx I2 I3 hb1 hc b1 hs0 d2
            obtain ⟨⟨⟨c0, c1, c2, c3, c4, c5, c6⟩, l1, l2, b1⟩, ⟨n0, n1, n2⟩, l3⟩ := id I4
            go_wp2_with fail
            by_cases hj0 : j = 0
            · subst hj0
              have hat4 := lay (hat3.out.trans (if_neg (by rw [aheadK_zero]; simp [behind])))
              have hV2 : Hid (kbad b none ks = kbad b (aheadK ks (0 + 1)) (ks.drop (0 + 1))) := lay (hV.out.trans (hat4.out.trans (by rw [hsu.out])))
              clear hat3 hat4
              go_quiet (fail)
              go_wp2_with fail
              exact ⟨⟨0 + 1, by omega, by go_num, hV2, I4.drewN _⟩, by simp [intOf]; omega⟩
            · obtain ⟨k, rfl⟩ : ∃ k, j = k + 1 := ⟨j - 1, by omega⟩
              have hk1 : k < ks.length := by omega
              obtain ⟨bk', off', e', _, y0, _, _⟩ := (hk.below b1).at_ hk1
              cases e'
              have hah := lay (aheadK_succ ks hk1)
              have hk2 : (0 : Int) ≤ (k : Int) := by omega
              have hwk : IntKind.i64.wrap (k : Int) = (k : Int) := IntWalk.i64_in _ (by omega)
              have hk3 : (k : Int) < (ks.length : Int) := by omega
              cases hs1 : Op.bytesLess ks[k + 1].s.toList ks[k].s.toList
              · cases hs2 : (ks[k + 1].s.toList == ks[k].s.toList)
                · have hb0 := sle_no hs1 hs2
                  have hV2 : Hid (kbad b none ks = kbad b (aheadK ks (k + 1 + 1)) (ks.drop (k + 1 + 1))) := lay (hV.out.trans (hat3.out.trans ((if_neg (by rw [hah.out]; show ¬ sle _ _ = true; rw [hb0]; simp)).trans (by rw [hsu.out]))))
                  clear hat3 hb0
                  go_quiet (fail)
                  go_wp2_with fail
                  exact ⟨⟨k + 1 + 1, by omega, by go_num, hV2, I4.drewN _⟩, by simp [intOf]; omega⟩
                · have hb0 := sle_same hs2
                  have hr := lay (hV.out.trans (hat3.out.trans (if_pos (by rw [hah.out]; exact hb0))))
                  clear hat3 hb0
                  go_quiet (fail)
                  go_wp2_with fail
                  go_ret
                  exact ⟨ret_int hr.out.symm, (I4.drewN _).below⟩
              · have hb0 := sle_less hs1
                have hr := lay (hV.out.trans (hat3.out.trans (if_pos (by rw [hah.out]; exact hb0))))
                clear hat3 hb0
                go_quiet (fail)
                go_wp2_with fail
                go_ret
                exact ⟨ret_int hr.out.symm, (I4.drewN _).below⟩
          · have hr := lay (hV.out.trans (hat2.out.trans (if_pos g3)))
            have hc := fun w0 => refRef_no ks[j].k ks[j].g ks[j].o ks[j].n w0 g3
            clear g3 hat2
            go_wp2_with fail
            refine (hc _).mono ?_
            rintro x w1 ⟨rfl, hb1⟩
            have I4 := I3.next hb1
            go_wp2_with fail
            go_ret
            exact ⟨ret_int hr.out.symm, I4.below⟩
    · have hr := lay (hV.out.trans (kbad_end b _ ks (by omega)))
      go_wp2_with fail
      go_ret
      exact ⟨ret_int hr.out.symm, b1⟩

theorem refInner_any (a b c d e f h : Int) (lf : Bool) (es : List E) (ks : List K) (A : Option Addr) (cap : Nat) (A' : Option Addr) (cap' : Nat) (w : World) (hv : Es w w.heap.size es A cap) (hk : Ks w w.heap.size ks A' cap') :
    Calls Try.prog 129 #[.agg #[.int .i64 a, .int .i64 b, .int .i64 c, .int .i64 d, .int .i64 e, .int .i64 f, .int .i64 h], .agg #[.bool lf, .slice A es.length cap, .slice A' ks.length cap']] w fun x w' => x = .returned (.int .i64 (if 0 < es.length ∨ ks.length < 2 ∨ 4 < ks.length then 60 else kbad b none ks)) ∧ Below w.heap.size w w' := by
  by_cases g1 : 0 < es.length
  · rw [if_pos (Or.inl g1)]
    exact inner_bad1 a b c d e f h lf _ _ A cap A' cap' w g1 (by have := hv.2.1; omega)
  · rw [show es.length = 0 by omega]
    by_cases g2 : ks.length < 2
    · rw [if_pos (Or.inr (Or.inl g2))]
      exact inner_bad2 a b c d e f h lf _ A cap A' cap' w (by omega)
    · by_cases g3 : 4 < ks.length
      · rw [if_pos (Or.inr (Or.inr g3))]
        exact inner_bad3 a b c d e f h lf _ A cap A' cap' w (by omega) (by omega) (by have := hk.2.1; omega)
      · rw [if_neg (by omega)]
        exact inner_loop a b c d e f h lf ks A cap A' cap' w hk (by omega) (by omega)

set_option maxRecDepth 100000 in
set_option maxHeartbeats 1000000 in
theorem refNode_any (a b c d e f h : Int) (lf : Bool) (es : List E) (ks : List K) (A : Option Addr) (cap : Nat) (A' : Option Addr) (cap' : Nat) (w : World) (hv : Es w w.heap.size es A cap) (hk : Ks w w.heap.size ks A' cap') :
    Calls Try.prog 66 #[.agg #[.int .i64 a, .int .i64 b, .int .i64 c, .int .i64 d, .int .i64 e, .int .i64 f, .int .i64 h], .agg #[.bool lf, .slice A es.length cap, .slice A' ks.length cap']] w fun x w' => x = .returned (.int .i64 (ndbad a b c d e f h lf es ks)) ∧ Below w.heap.size w w' := by
  have I0 := Bn.new w a b c d e f h lf (.slice A es.length cap) (.slice A' ks.length cap')
  by_cases g : ok a b c d e f h
  · cases lf with
    | true =>
      rw [show ndbad a b c d e f h true es ks = if 0 < ks.length ∨ 4 < es.length then 60 else ebad a b c d e f h none es by unfold ndbad; rw [if_pos g, if_pos rfl]]
      have hc := fun wr (hb : Below w.heap.size w wr) => refLeaf_any a b c d e f h true es ks A cap A' cap' wr (hv.at_world hb) (hk.at_world hb)
      generalize (if 0 < ks.length ∨ 4 < es.length then 60 else ebad a b c d e f h none es) = n at hc ⊢
      generalize es.length = ne at I0 hc ⊢
      generalize ks.length = nk at I0 hc ⊢
      go_enter Try.func66, Try.ntmps66
      go_wp2_with fail
      refine (refRight_ok _ _ _ _ _ _ _ _ g).mono ?_
      rintro x w1 ⟨rfl, hb1⟩
      have I1 := I0.next hb1
      clear hb1 I0
      obtain ⟨⟨⟨c0, c1, c2, c3, c4, c5, c6⟩, l1, l2, b1⟩, ⟨n0, n1, n2⟩, l3⟩ := id I1
      go_wp2_with fail
      refine (hc _ b1).mono ?_
      rintro x w2 ⟨rfl, hb2⟩
      have I2 := I1.next hb2
      go_wp2_with fail
      go_ret
      exact ⟨rfl, I2.below⟩
    | false =>
      rw [show ndbad a b c d e f h false es ks = if 0 < es.length ∨ ks.length < 2 ∨ 4 < ks.length then 60 else kbad b none ks by unfold ndbad; rw [if_pos g, if_neg (by simp)]]
      have hc := fun wr (hb : Below w.heap.size w wr) => refInner_any a b c d e f h false es ks A cap A' cap' wr (hv.at_world hb) (hk.at_world hb)
      generalize (if 0 < es.length ∨ ks.length < 2 ∨ 4 < ks.length then 60 else kbad b none ks) = n at hc ⊢
      generalize es.length = ne at I0 hc ⊢
      generalize ks.length = nk at I0 hc ⊢
      go_enter Try.func66, Try.ntmps66
      go_wp2_with fail
      refine (refRight_ok _ _ _ _ _ _ _ _ g).mono ?_
      rintro x w1 ⟨rfl, hb1⟩
      have I1 := I0.next hb1
      clear hb1 I0
      obtain ⟨⟨⟨c0, c1, c2, c3, c4, c5, c6⟩, l1, l2, b1⟩, ⟨n0, n1, n2⟩, l3⟩ := id I1
      go_wp2_with fail
      refine (hc _ b1).mono ?_
      rintro x w2 ⟨rfl, hb2⟩
      have I2 := I1.next hb2
      go_wp2_with fail
      go_ret
      exact ⟨rfl, I2.below⟩
  · rw [show ndbad a b c d e f h lf es ks = 40 by unfold ndbad; rw [if_neg g]]
    go_enter Try.func66, Try.ntmps66
    go_wp2_with fail
    refine (refRight_no _ _ _ _ _ _ _ _ g).mono ?_
    rintro x w1 ⟨rfl, hb1⟩
    have I1 := I0.next hb1
    clear hb1 I0
    go_wp2_with fail
    go_ret
    exact ⟨rfl, I1.below⟩

end Go.Proofs.Ytoenkkbcpafanaa.nodes

/- LikeVersions, Like and Copy of the document. -/

namespace Go.Proofs.Ytoenkkbcpafanaa.vers
set_option linter.unusedVariables false
set_option linter.unusedSimpArgs false
open Go.RowKit Go.Proofs.Ytoenkkbcpafanaa.base Go.Proofs.Ytoenkkbcpafanaa.quotas

theorem ret_bool {a b : Bool} (h : a = b) : Ending.returned (.bool a) = .returned (.bool b) := by rw [h]
theorem bytes_eq {a b : ByteArray} (h : a = b) : (a.toList == b.toList) = true := by rw [h]; simp
theorem bytes_ne {a b : ByteArray} (h : ¬ a = b) : (a.toList == b.toList) = false := by
  rw [beq_eq_false_iff_ne]
  intro e
  apply h
  apply ByteArray.ext
  apply Array.toList_inj.1
  rwa [ByteArray.toList_eq, ByteArray.toList_eq] at e
theorem take_next {l m : List V} {j : Nat} (h : l.take j = m.take j) (hl : j < l.length) (hm : j < m.length) (e : l[j] = m[j]) : l.take (j + 1) = m.take (j + 1) := by
  rw [List.take_succ_eq_append_getElem hl, List.take_succ_eq_append_getElem hm, h, e]
theorem ne_at {l m : List V} {j : Nat} (hl : j < l.length) (hm : j < m.length) (e : l[j] ≠ m[j]) : decide (l = m) = false := by
  rw [decide_eq_false_iff_not]
  rintro rfl
  exact e rfl
def KHead (w : World) (l m : List V) (x : Value) (wr : World) : Prop := ∃ j : Nat, j ≤ l.length ∧ x = .int .i64 j ∧ Hid (l.take j = m.take j) ∧ Below w.heap.size w wr

set_option maxRecDepth 100000 in
set_option maxHeartbeats 400000 in
theorem likeVs_any (l m : List V) (A A' : Option Addr) (cap cap' : Nat) (w : World) (hv : Vs w w.heap.size l A cap) (hv' : Vs w w.heap.size m A' cap') :
    Calls Try.prog 208 #[.slice A l.length cap, .slice A' m.length cap'] w fun x w' => x = .returned (.bool (decide (l = m))) ∧ Below w.heap.size w w' := by
  have hlen := len_in hv
  have hlen' := len_in hv'
  by_cases hl : l.length = m.length
  · go_enter Try.func208, Try.ntmps208
    go_wp2_with fail
    go_loopw [13] (fun x wr => KHead w l m x wr) (fun x _ => l.length - (intOf x).toNat)
    case atStart => exact ⟨0, Nat.zero_le _, rfl, lay rfl, Below.refl _ _⟩
    case round =>
      obtain ⟨j, hj, rfl, hV, hb⟩ := hrel
      by_cases hlt : j < l.length
      · have hlt' : j < m.length := by omega
        obtain ⟨bk, off, rfl, hbk, v0, v1, v2⟩ := (hv.below hb).at_ hlt
        obtain ⟨bk', off', rfl, hbk', y0, y1, y2⟩ := (hv'.below hb).at_ hlt'
        have k1 : (0 : Int) ≤ (j : Int) := by omega
        have k2 : (j : Int) < (l.length : Int) := by omega
        have k3 : (j : Int) < (m.length : Int) := by omega
        go_wp2_with fail
        by_cases g1 : l[j].n = m[j].n
        · have d1 : (l[j].n == m[j].n) = true := by simp [g1]
          by_cases g2 : l[j].v = m[j].v
          · have d2 := bytes_eq g2
            by_cases g3 : l[j].t = m[j].t
            · have d3 := bytes_eq g3
              have he : Hid (l[j] = m[j]) := lay (by
                cases hx : l[j]; cases hy : m[j]
                rw [hx, hy] at g1 g2 g3
                simp only at g1 g2 g3
                rw [g1, g2, g3])
              clear g1 g2 g3
              go_quiet (fail)
              go_wp2_with fail
              exact ⟨⟨j + 1, hlt, by go_num, lay (take_next hV.out hlt hlt' he.out), hb.trans ⟨rfl, rfl, rfl, Nat.le_refl _, fun _ _ => rfl⟩⟩, by simp [intOf]; omega⟩
            · have d3 := bytes_ne g3
              have he : Hid (l[j] ≠ m[j]) := lay (fun e => g3 (by rw [e]))
              clear g1 g2 g3
              go_quiet (fail)
              go_wp2_with fail
              go_ret
              exact ⟨ret_bool (ne_at hlt hlt' he.out).symm, hb.trans ⟨rfl, rfl, rfl, Nat.le_refl _, fun _ _ => rfl⟩⟩
          · have d2 := bytes_ne g2
            have he : Hid (l[j] ≠ m[j]) := lay (fun e => g2 (by rw [e]))
            clear g1 g2
            go_quiet (fail)
            go_wp2_with fail
            go_ret
            exact ⟨ret_bool (ne_at hlt hlt' he.out).symm, hb.trans ⟨rfl, rfl, rfl, Nat.le_refl _, fun _ _ => rfl⟩⟩
        · have d1 : (l[j].n == m[j].n) = false := by simpa using g1
          have he : Hid (l[j] ≠ m[j]) := lay (fun e => g1 (by rw [e]))
          clear g1
          go_quiet (fail)
          go_wp2_with fail
          go_ret
          exact ⟨ret_bool (ne_at hlt hlt' he.out).symm, hb.trans ⟨rfl, rfl, rfl, Nat.le_refl _, fun _ _ => rfl⟩⟩
      · have he : Hid (l = m) := lay (by
          have h1 := hV.out
          rwa [List.take_of_length_le (by omega), List.take_of_length_le (by omega)] at h1)
        go_wp2_with fail
        go_ret
        exact ⟨ret_bool (decide_eq_true he.out).symm, hb⟩
  · have hd : ((l.length : Int) != (m.length : Int)) = true := by simp; omega
    go_enter Try.func208, Try.ntmps208
    go_wp2_with fail
    all_goals (go_ret; exact ⟨ret_bool (by rw [eq_comm, decide_eq_false_iff_not]; rintro rfl; exact hl rfl), Below.refl _ _⟩)
end Go.Proofs.Ytoenkkbcpafanaa.vers

/- A list of versions that the call owns; append onto it, of versions from anywhere. -/

namespace Go.Proofs.Ytoenkkbcpafanaa.vers
set_option linter.unusedVariables false
set_option linter.unusedSimpArgs false
open Go.RowKit Go.Proofs.Ytoenkkbcpafanaa.base Go.Proofs.Ytoenkkbcpafanaa.quotas

theorem infoV : (Try.prog.info? 180).map (fun i => (i.zero, i.size, i.bytes)) = some (some (.agg #[.int .i64 0, .string ⟨#[]⟩, .string ⟨#[]⟩]), 3, 40) := by kernel_rfl

/-- the slice v, built in blocks from lo on, holds the versions l -/
def OwnV (lo : Nat) (w : World) (l : List V) (v : Value) : Prop := w.ownsRow lo 180 3 v l.length (cellsV l) ∧ l.length * 40 ≤ 140737488355328 ∧ ∀ x ∈ l, x.fits

section
variable {lo : Nat} {w w' : World} {l : List V} {v : Value}
theorem OwnV.nil (lo : Nat) (w : World) : OwnV lo w [] (.slice none 0 0) := ⟨⟨rfl, .inl ⟨rfl, rfl⟩⟩, by simp, fun x h => by cases h⟩
theorem OwnV.empty (lo : Nat) (w : World) (h : lo ≤ w.heap.size) : OwnV lo (w.alloc (.cells #[] 180)) [] (.slice (some ⟨w.heap.size, 0, none⟩) 0 0) :=
  ⟨⟨rfl, .inr ⟨w.heap.size, 0, #[], rfl, h, heap_alloc_new w _, Nat.le_refl _, Nat.zero_le _, rfl, rfl⟩⟩, by simp, fun x h => by cases h⟩
theorem OwnV.own (h : OwnV lo w l v) : ∀ k, v.ownBlock = some k → lo ≤ k ∧ k < w.heap.size := h.1.lt
theorem OwnV.kept (h : OwnV lo w l v) {row : Option Nat} (hg : w.grownBy w' row) (hr : ∀ g, row = some g → v.ownBlock ≠ some g) : OwnV lo w' l v := by
  refine ⟨h.1.kept hg ?_, h.2⟩
  cases hv : v.ownBlock with
  | none => exact .inl rfl
  | some k => exact .inr fun e => hr k e.symm hv
theorem OwnV.below (h : OwnV lo w l v) (hb : Below w.heap.size w w') : OwnV lo w' l v :=
  h.kept (row := none) (grown_below (World.grownBy.refl w none) hb) (fun g e => by cases e)
theorem OwnV.form (h : OwnV lo w l v) : ∃ A c, v = .slice A l.length c ∧ l.length ≤ c := by
  rcases h.1.2 with ⟨rfl, hn⟩ | ⟨g, cap, cur, rfl, _, _, hc, _⟩
  · exact ⟨none, 0, by rw [hn], by omega⟩
  · exact ⟨_, cap, rfl, hc⟩
theorem OwnV.vs (h : OwnV lo w l v) : ∃ A c, v = .slice A l.length c ∧ Vs w w.heap.size l A c ∧ ∀ b off, A = some ⟨b, off, none⟩ → lo ≤ b := by
  obtain ⟨h1, h2, h3⟩ := h
  rcases h1.2 with ⟨rfl, hn⟩ | ⟨g, cap, cur, rfl, hg, hb, hc, _, hs, ht⟩
  · obtain rfl := List.eq_nil_of_length_eq_zero hn
    exact ⟨none, 0, rfl, ⟨Nat.le_refl _, by simp, fun _ => rfl, Rd.nil _ _ _, h3⟩, fun b off e => by cases e⟩
  · have hlt : g < w.heap.size := Blk.lt (t := 180) (cs := cur) hb
    refine ⟨_, cap, rfl, ⟨hc, h2, (fun e => by cases e), Blk.rdTake (t := 180) (cur := cur) (n := l.length * 3) hb (by simpa using ht) hlt, h3⟩, fun b off e => ?_⟩
    cases e
    exact hg
end

/-- append of versions that lie anywhere -/
theorem wp_append_vs {o : Oper} {a : Act} {K : Act → World → Prop} {Q : Exit → Act → World → Prop} {w : World} (s x : Operand)
    (ho : o.op = .call { callee := .builtin .append, args := #[s, x], argTypes := #[45, 45] })
    {lo B : Nat} {v : Value} {l m : List V} (hB : OwnV lo w l v) (hs : a.eval s = v) (hlo : lo ≤ w.heap.size) {A : Option Addr} {n c : Nat} (hx : a.eval x = .slice A n c) (hn : n = m.length) (hv : Vs w B m A c)
    (hlen : (l.length + m.length) * 40 ≤ 140737488355328)
    (h : ∀ v' w', OwnV lo w' (l ++ m) v' → w.grownBy w' v.ownBlock → (v'.ownBlock = v.ownBlock ∨ v'.ownBlock = some w.heap.size) → K (a.put o.dst v') w') : o.wp Try.prog a w K Q := by
  subst hn
  obtain ⟨i0, hi0, hz0, hz1, hz2⟩ := info_parts infoV
  obtain ⟨h1, h2, h3⟩ := hB
  have hfit : ∀ y ∈ l ++ m, y.fits := fun y hy => by
    rcases List.mem_append.1 hy with e | e
    · exact h3 y e
    · exact hv.2.2.2.2 y e
  cases A with
  | none =>
    obtain rfl := hv.2.2.1 rfl
    obtain rfl := List.eq_nil_of_length_eq_zero (Nat.le_zero.1 hv.1)
    have hrun := run_append_owned_none (P := Try.prog) (w := w) lo 45 o.type 180 i0 3 Try.underlying45 hi0 v l.length (cellsV l) h1
    have hx' : a.eval x = .slice none 0 0 := hx
    unfold Oper.wp
    simp [execOp, ho, resolve, invoke, builtin, hs, hx', hrun, Result.andThen]
    exact h _ _ (by rw [List.append_nil]; exact ⟨h1, h2, h3⟩) (World.grownBy.refl w _) (.inl rfl)
  | some ad =>
    obtain ⟨v', w', hr, k2, k3, _, k5⟩ := run_append_own_at (P := Try.prog) w lo 45 o.type 180 i0 _ 3 40 Try.underlying45 hi0 hz0 hz1 hz2 rfl (by decide) v l.length (cellsV l) h1 ad m.length c (cellsV m) (by rw [cellsV_len]; omega)
      (fun j u hj => by
        obtain ⟨b, off, e, hb, hc⟩ := hv.2.2.2.1 j u hj
        cases e
        rw [add_plain]
        exact hc) (cellsV_one m) (by unfold maxLen; omega) hlen hlo
    unfold Oper.wp execOp
    simp only [ho, resolve, invoke, builtin, Sem.run_bind, Sem.run_pure, Result.andThen_ok, List.map_toArray, List.map_cons, List.map_nil, hs, hx, hr]
    exact h v' w' ⟨by rw [cellsV_app, List.length_append]; exact k2, by rw [List.length_append]; exact hlen, hfit⟩ k3 k5
theorem wpList_append_vs {ops : Array Oper} {rest : List Oper} {o : Oper} {a : Act} {Q : Exit → Act → World → Prop} {w : World} (hgd : o.guard = none) (s x : Operand)
    (ho : o.op = .call { callee := .builtin .append, args := #[s, x], argTypes := #[45, 45] })
    {lo B : Nat} {v : Value} {l m : List V} (hB : OwnV lo w l v) (hs : a.eval s = v) (hlo : lo ≤ w.heap.size) {A : Option Addr} {n c : Nat} (hx : a.eval x = .slice A n c) (hn : n = m.length) (hv : Vs w B m A c)
    (hlen : (l.length + m.length) * 40 ≤ 140737488355328)
    (h : ∀ v' w', OwnV lo w' (l ++ m) v' → w.grownBy w' v.ownBlock → (v'.ownBlock = v.ownBlock ∨ v'.ownBlock = some w.heap.size) → wpList Try.prog ops Q rest (a.put o.dst v') w') : wpList Try.prog ops Q (o :: rest) a w :=
  wpList_plain hgd fun _ hK => wp_append_vs s x ho hB hs hlo hx hn hv hlen fun v' w' h2 h3 h4 => hK _ _ (h v' w' h2 h3 h4)
theorem step_append_vs {ops : Array Oper} {o : Oper} {a : Act} {K : Act → World → Prop} {Q : Exit → Act → World → Prop} {E : Prop} {w : World} (hgd : o.guard = none) (s x : Operand)
    (ho : o.op = .call { callee := .builtin .append, args := #[s, x], argTypes := #[45, 45] })
    {lo B : Nat} {v : Value} {l m : List V} (hB : OwnV lo w l v) (hs : a.eval s = v) (hlo : lo ≤ w.heap.size) {A : Option Addr} {n c : Nat} (hx : a.eval x = .slice A n c) (hn : n = m.length) (hv : Vs w B m A c)
    (hlen : (l.length + m.length) * 40 ≤ 140737488355328)
    (h : ∀ v' w', OwnV lo w' (l ++ m) v' → w.grownBy w' v.ownBlock → (v'.ownBlock = v.ownBlock ∨ v'.ownBlock = some w.heap.size) → K (a.put o.dst v') w') :
    if Region.wanted o (yielded ops a.tmps) = true then Oper.wp Try.prog o a w K Q else E := by
  have hw : Region.wanted o (yielded ops a.tmps) = true := by simp [Region.wanted, hgd]
  rw [if_pos hw]
  exact wp_append_vs s x ho hB hs hlo hx hn hv hlen h
end Go.Proofs.Ytoenkkbcpafanaa.vers

/- Like and Copy of the document. -/

namespace Go.Proofs.Ytoenkkbcpafanaa.vers
set_option linter.unusedVariables false
set_option linter.unusedSimpArgs false
open Go.RowKit Go.Proofs.Ytoenkkbcpafanaa.base Go.Proofs.Ytoenkkbcpafanaa.quotas

set_option maxRecDepth 100000 in
set_option maxHeartbeats 400000 in
theorem like_any (s s' : ByteArray) (l m : List V) (A A' : Option Addr) (cap cap' : Nat) (w : World) (hv : Vs w w.heap.size l A cap) (hv' : Vs w w.heap.size m A' cap') :
    Calls Try.prog 171 #[.agg #[.string s, .slice A l.length cap], .agg #[.string s', .slice A' m.length cap']] w fun x w' => x = .returned (.bool (decide (s = s') && decide (l = m))) ∧ Below w.heap.size w w' := by
  have hw2 : Below w.heap.size w ((w.alloc (.cells #[.string s, .slice A l.length cap] 47)).alloc (.cells #[.string s', .slice A' m.length cap'] 47)) := ((Below.refl _ _).alloc (Nat.le_refl _) _).alloc (by simp) _
  have hc := likeVs_any l m A A' cap cap' _ ((hv.below hw2).more hw2.size) ((hv'.below hw2).more hw2.size)
  by_cases hs : s = s'
  · have d1 := bytes_eq hs
    have e1 : decide (s = s') = true := decide_eq_true hs
    rw [e1]
    clear hs e1
    go_enter Try.func171, Try.ntmps171
    go_wp2_with fail
    refine hc.mono ?_
    rintro x w1 ⟨rfl, hb1⟩
    go_wp2_with fail
    go_ret
    exact ⟨rfl, hw2.trans (hb1.mono hw2.size)⟩
  · have d1 := bytes_ne hs
    have e1 : decide (s = s') = false := decide_eq_false hs
    rw [e1]
    clear hs e1
    go_enter Try.func171, Try.ntmps171
    go_wp2_with fail
    go_ret
    exact ⟨rfl, hw2⟩

theorem Blk.grown {w w' : World} {g : Nat} {t : TypeId} {cs : Array Value} {row : Option Nat} (h : Blk w g t cs) (hg : w.grownBy w' row) (hr : row ≠ some g) : Blk w' g t cs := (hg.block g h.lt (fun e => hr e.symm)).trans h
theorem OwnV.drew {lo : Nat} {w : World} {l : List V} {v : Value} (h : OwnV lo w l v) : OwnV lo w.drew l v := h.below ((Below.refl _ _).drew)
theorem Vs.drew {w : World} {B : Nat} {l : List V} {A : Option Addr} {c : Nat} (h : Vs w B l A c) : Vs w.drew B l A c := h.below ((Below.refl _ _).drew)

theorem OwnV.setCell {lo : Nat} {w : World} {l : List V} {v : Value} (h : OwnV lo w l v) {p : Addr} (hp : p.block < lo) (u : Value) : OwnV lo (w.setCell p u) l v := ⟨ownsRow_setCell_below h.1 hp u, h.2⟩
theorem OwnV.more {lo lo' : Nat} {w : World} {l : List V} {v : Value} (h : OwnV lo w l v) (hl : lo' ≤ lo) : OwnV lo' w l v := by
  refine ⟨⟨h.1.1, ?_⟩, h.2⟩
  rcases h.1.2 with h0 | ⟨g, cap, cur, k1, k2, k3⟩
  · exact .inl h0
  · exact .inr ⟨g, cap, cur, k1, Nat.le_trans hl k2, k3⟩
/-- behind an append onto an own list: what was there, but for blocks from B on -/
theorem below_grown {w0 w w' : World} {B : Nat} {row : Option Nat} (h : Below B w0 w) (hg : w.grownBy w' row) (hB : B ≤ w.heap.size) (hr : ∀ k, row = some k → B ≤ k) : Below B w0 w' := h.grown hg hB hr

set_option maxRecDepth 100000 in
set_option maxHeartbeats 400000 in
theorem copy_any (s : ByteArray) (l : List V) (A : Option Addr) (cap : Nat) (w : World) (hv : Vs w w.heap.size l A cap) :
    Calls Try.prog 170 #[.agg #[.string s, .slice A l.length cap]] w fun x w' => ∃ u, x = .returned (.agg #[.string s, u]) ∧ OwnV w.heap.size w' l u ∧ Below w.heap.size w w' := by
  have hB2 : Below w.heap.size w ((w.alloc (.cells #[.string s, .slice A l.length cap] 47)).alloc (.cells #[.string ⟨#[]⟩, .slice none 0 0] 47)) := ((Below.refl _ _).alloc (Nat.le_refl _) _).alloc (by simp) _
  have hB3 := (hB2.alloc hB2.size (.cells #[] 180)).drew
  have hE := (OwnV.empty (w.heap.size + 1 + 1) ((w.alloc (.cells #[.string s, .slice A l.length cap] 47)).alloc (.cells #[.string ⟨#[]⟩, .slice none 0 0] 47)) (by simp)).drew
  have hV := hv.below hB3
  have hz := ((Blk.new (w.alloc (.cells #[.string s, .slice A l.length cap] 47)) 47 #[.string ⟨#[]⟩, .slice none 0 0]).alloc (.cells #[] 180)).drew
  have hlen := hv.2.1
  simp only [World.size_alloc] at hE hz
  go_enter Try.func170, Try.ntmps170
  go_wp2_with fail
  go_region_held3 (fun w' => (w'.cell? ⟨w.heap.size, 0, none⟩ = some (.string s) ∧ w'.cell? ⟨w.heap.size, 1, none⟩ = some (.slice A l.length cap)))
    (first | go_keep | (go_split_ands; refine ⟨?_, ?_⟩ <;> (rw [hg.cell_far _ (by simp; omega) (by simp [Value.ownBlock]; omega)]; assumption)))
    ((refine step_append_vs (by rfl) (.tmp 5) (.tmp 7) (by rfl) (lo := w.heap.size + 1 + 1) (B := w.heap.size) (l := []) (m := l) (A := A) (n := l.length) (c := cap) (v := .slice (some ⟨w.heap.size + 1 + 1, 0, none⟩) 0 0) hE (by rfl) ?_ (by rfl) rfl hV ?_ ?_; simp; (simp; omega); intro v' w1 hown hg hat; have hz1 := Blk.grown hz hg (by simp [Value.ownBlock]); have z0 := hz1.cell 0; have z1 := hz1.cell 1; simp at z0 z1; have f0 := hz1.frozen 0; have f1 := hz1.frozen 1; rw [List.nil_append] at hown; obtain ⟨A1, cap1, rfl, hc1⟩ := hown.form))
  have hs1 := hg.size
  simp at hs1
  have hB4 : Below w.heap.size w w1 := hB3.grown hg (by simp; omega) (fun k hk => by simp [Value.ownBlock] at hk; omega)
  go_wp2_with fail
  refine bodyPost_ret (v := .agg #[.string s, .slice A1 l.length cap1]) (by simp [results, Try.results170, go_sem, z0, z1]) rfl ⟨_, rfl, (((hown.setCell (by simp) _).setCell (by simp) _).more (by omega)), (hB4.setCell (by simp) _).setCell (by simp) _⟩
end Go.Proofs.Ytoenkkbcpafanaa.vers
