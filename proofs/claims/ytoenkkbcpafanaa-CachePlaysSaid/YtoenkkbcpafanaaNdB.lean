/- What letheref06's RefRight, leaf, inner, Right and Low answer. -/
import Derived.Test.YtoenkkbcpafanaaNdA
import Derived.BigQuiet
import Derived.Deep.QuietTactic


namespace Go.Proofs.Ytoenkkbcpafanaa.nodes
set_option linter.unusedVariables false
set_option linter.unusedSimpArgs false
open Go.RowKit Go.Proofs.Ytoenkkbcpafanaa.base Go.Proofs.Ytoenkkbcpafanaa.quotas Go.Proofs.Ytoenkkbcpafanaa.vers

/-- behind a call's beginning: its own boxes hold the quota and the node -/
def Bn (w : World) (a b c d e f h : Int) (lf : Bool) (u u' : Value) (wr : World) : Prop :=
  In7 w w.heap.size a b c d e f h wr ∧ (wr.cell? ⟨w.heap.size + 1, 0, none⟩ = some (.bool lf) ∧ wr.cell? ⟨w.heap.size + 1, 1, none⟩ = some u ∧ wr.cell? ⟨w.heap.size + 1, 2, none⟩ = some u') ∧ w.heap.size + 1 < wr.heap.size
theorem Bn.new (w : World) (a b c d e f h : Int) (lf : Bool) (u u' : Value) : Bn w a b c d e f h lf u u' ((w.alloc (.cells #[.int .i64 a, .int .i64 b, .int .i64 c, .int .i64 d, .int .i64 e, .int .i64 f, .int .i64 h] 113)).alloc (.cells #[.bool lf, u, u'] 87)) := by
  have k := Blk.new (w.alloc (.cells #[.int .i64 a, .int .i64 b, .int .i64 c, .int .i64 d, .int .i64 e, .int .i64 f, .int .i64 h] 113)) 87 #[.bool lf, u, u']
  rw [World.size_alloc] at k
  exact ⟨(In7.new w a b c d e f h).alloc _, ⟨k.cell 0, k.cell 1, k.cell 2⟩, by simp⟩
theorem Bn.next {w wr w' : World} {a b c d e f h : Int} {lf : Bool} {u u' : Value} (h1 : Bn w a b c d e f h lf u u' wr) (hb : Below wr.heap.size wr w') : Bn w a b c d e f h lf u u' w' := by
  obtain ⟨h1, ⟨h2, h3, h5⟩, h4⟩ := h1
  have hs := hb.size
  exact ⟨h1.next hb, ⟨by rw [hb.cell (by simpa using h4)]; exact h2, by rw [hb.cell (by simpa using h4)]; exact h3, by rw [hb.cell (by simpa using h4)]; exact h5⟩, by omega⟩
theorem Bn.alloc {w wr : World} {a b c d e f h : Int} {lf : Bool} {u u' : Value} (h1 : Bn w a b c d e f h lf u u' wr) (ob : Obj) : Bn w a b c d e f h lf u u' (wr.alloc ob) := h1.next ((Below.refl _ _).alloc (Nat.le_refl _) _)
theorem Bn.drewN {w wr : World} {a b c d e f h : Int} {lf : Bool} {u u' : Value} (h1 : Bn w a b c d e f h lf u u' wr) (n : Nat) : Bn w a b c d e f h lf u u' (wr.drewN n) := h1.next ⟨rfl, rfl, rfl, Nat.le_refl _, fun _ _ => rfl⟩
theorem Bn.drew {w wr : World} {a b c d e f h : Int} {lf : Bool} {u u' : Value} (h1 : Bn w a b c d e f h lf u u' wr) : Bn w a b c d e f h lf u u' wr.drew := h1.next ((Below.refl _ _).drew)
theorem Bn.below {w wr : World} {a b c d e f h : Int} {lf : Bool} {u u' : Value} (h1 : Bn w a b c d e f h lf u u' wr) : Below w.heap.size w wr := h1.1.2.2.2
theorem _root_.Go.Proofs.Ytoenkkbcpafanaa.vers.Vs.now {w wr : World} {B : Nat} {l : List V} {A : Option Addr} {c : Nat} (h : Vs w B l A c) (hb : Below B w wr) (hB : B ≤ wr.heap.size) : Vs wr wr.heap.size l A c := (h.below hb).more hB

set_option maxRecDepth 100000 in
set_option maxHeartbeats 1000000 in
theorem refRef_ok (k : Nat) (g o n : Int) (w : World) (hr : refOk g o n) :
    Calls Try.prog 180 #[.agg #[.int .u64 (k : Int), .int .i64 g, .int .i64 o, .int .i64 n]] w fun x w' => x = .returned (.bool true) ∧ Below w.heap.size w w' := by
  obtain ⟨⟨h1, h2⟩, ⟨h3, h4⟩, h5, h6⟩ := hr
  go_enter Try.func180, Try.ntmps180
  go_wp2_with fail
  go_ret
  exact ⟨rfl, (Below.refl _ _).alloc (Nat.le_refl _) _⟩

set_option maxRecDepth 100000 in
set_option maxHeartbeats 1000000 in
theorem refRef_no (k : Nat) (g o n : Int) (w : World) (hr : ¬ refOk g o n) :
    Calls Try.prog 180 #[.agg #[.int .u64 (k : Int), .int .i64 g, .int .i64 o, .int .i64 n]] w fun x w' => x = .returned (.bool false) ∧ Below w.heap.size w w' := by
  by_cases t0 : 0 ≤ g
  rotate_left
  · clear hr
    go_enter Try.func180, Try.ntmps180
    go_wp2_with fail
    go_ret
    exact ⟨rfl, (Below.refl _ _).alloc (Nat.le_refl _) _⟩
  by_cases t1 : g ≤ 1048576
  rotate_left
  · clear hr
    go_enter Try.func180, Try.ntmps180
    go_wp2_with fail
    go_ret
    exact ⟨rfl, (Below.refl _ _).alloc (Nat.le_refl _) _⟩
  by_cases t2 : 0 ≤ o
  rotate_left
  · clear hr
    go_enter Try.func180, Try.ntmps180
    go_wp2_with fail
    go_ret
    exact ⟨rfl, (Below.refl _ _).alloc (Nat.le_refl _) _⟩
  by_cases t3 : o ≤ 134217728
  rotate_left
  · clear hr
    go_enter Try.func180, Try.ntmps180
    go_wp2_with fail
    go_ret
    exact ⟨rfl, (Below.refl _ _).alloc (Nat.le_refl _) _⟩
  by_cases t4 : 1 ≤ n
  rotate_left
  · clear hr
    go_enter Try.func180, Try.ntmps180
    go_wp2_with fail
    go_ret
    exact ⟨rfl, (Below.refl _ _).alloc (Nat.le_refl _) _⟩
  by_cases t5 : n ≤ 1048576
  rotate_left
  · clear hr
    go_enter Try.func180, Try.ntmps180
    go_wp2_with fail
    go_ret
    exact ⟨rfl, (Below.refl _ _).alloc (Nat.le_refl _) _⟩
  exact absurd ⟨⟨t0, t1⟩, ⟨t2, t3⟩, t4, t5⟩ hr

theorem refRef_any (k : Nat) (g o n : Int) (w : World) :
    Calls Try.prog 180 #[.agg #[.int .u64 (k : Int), .int .i64 g, .int .i64 o, .int .i64 n]] w fun x w' => x = .returned (.bool (decide (refOk g o n))) ∧ Below w.heap.size w w' := by
  by_cases h : refOk g o n
  · rw [decide_eq_true h]; exact refRef_ok k g o n w h
  · rw [decide_eq_false h]; exact refRef_no k g o n w h

/-- a round's head of leaf: so far nothing is wrong -/
def LHead (w : World) (a b c d e f h : Int) (lf : Bool) (es : List E) (u u' : Value) (x : Value) (wr : World) : Prop :=
  ∃ j : Nat, j ≤ es.length ∧ x = .int .i64 j ∧ Hid (ebad a b c d e f h none es = ebad a b c d e f h (aheadE es j) (es.drop j)) ∧ Bn w a b c d e f h lf u u' wr

set_option maxRecDepth 100000 in
set_option maxHeartbeats 1000000 in
theorem leaf_bad1 (a b c d e f h : Int) (lf : Bool) (ne nk : Nat) (A : Option Addr) (cap : Nat) (A' : Option Addr) (cap' : Nat) (w : World) (hp : 0 < nk) (hm : nk ≤ 140737488355328) :
    Calls Try.prog 128 #[.agg #[.int .i64 a, .int .i64 b, .int .i64 c, .int .i64 d, .int .i64 e, .int .i64 f, .int .i64 h], .agg #[.bool lf, .slice A ne cap, .slice A' nk cap']] w fun x w' => x = .returned (.int .i64 60) ∧ Below w.heap.size w w' := by
  have I0 := Bn.new w a b c d e f h lf (.slice A ne cap) (.slice A' nk cap')
  have hp1 : (0 : Int) < (nk : Int) := by omega
  go_enter Try.func128, Try.ntmps128
  go_wp2_with fail
  go_ret
  exact ⟨rfl, I0.below⟩

set_option maxRecDepth 100000 in
set_option maxHeartbeats 1000000 in
theorem leaf_bad2 (a b c d e f h : Int) (lf : Bool) (ne : Nat) (A : Option Addr) (cap : Nat) (A' : Option Addr) (cap' : Nat) (w : World) (hp : (4 : Int) < (ne : Int)) (hm : ne ≤ 140737488355328) :
    Calls Try.prog 128 #[.agg #[.int .i64 a, .int .i64 b, .int .i64 c, .int .i64 d, .int .i64 e, .int .i64 f, .int .i64 h], .agg #[.bool lf, .slice A ne cap, .slice A' 0 cap']] w fun x w' => x = .returned (.int .i64 60) ∧ Below w.heap.size w w' := by
  have I0 := Bn.new w a b c d e f h lf (.slice A ne cap) (.slice A' 0 cap')
  go_enter Try.func128, Try.ntmps128
  go_wp2_with fail
  go_ret
  exact ⟨rfl, I0.below⟩

set_option maxRecDepth 100000 in
set_option maxHeartbeats 1000000 in
theorem leaf_loop (a b c d e f h : Int) (lf : Bool) (es : List E) (A : Option Addr) (cap : Nat) (A' : Option Addr) (cap' : Nat) (w : World) (hv : Es w w.heap.size es A cap) (h4 : ¬ (4 : Int) < (es.length : Int)) :
    Calls Try.prog 128 #[.agg #[.int .i64 a, .int .i64 b, .int .i64 c, .int .i64 d, .int .i64 e, .int .i64 f, .int .i64 h], .agg #[.bool lf, .slice A es.length cap, .slice A' 0 cap']] w fun x w' => x = .returned (.int .i64 (ebad a b c d e f h none es)) ∧ Below w.heap.size w w' := by
      have hlen : es.length ≤ 140737488355328 := by have := hv.2.1; omega
      have I0 := Bn.new w a b c d e f h lf (.slice A es.length cap) (.slice A' 0 cap')
      go_enter Try.func128, Try.ntmps128
      go_wp2_with fail
      go_loopw [21] (fun x wr => LHead w a b c d e f h lf es (.slice A es.length cap) (.slice A' 0 cap') x wr) (fun x _ => es.length - (intOf x).toNat)
      case atStart => exact ⟨0, Nat.zero_le _, rfl, lay (by rw [aheadE_zero]; rfl), I0⟩
      case round =>
        obtain ⟨j, hj, rfl, hV, I2⟩ := hrel
        clear I0
        obtain ⟨⟨⟨c0, c1, c2, c3, c4, c5, c6⟩, l1, l2, b1⟩, ⟨n0, n1, n2⟩, l3⟩ := id I2
        by_cases hlt : j < es.length
        · obtain ⟨bk, off, rfl, hbk, e0, e1, hVs⟩ := (hv.below b1).at_ hlt
          have hat := lay (ebad_at a b c d e f h (aheadE es j) es hlt)
          have hsu := lay (aheadE_succ es hlt)
          have hvl : es[j].l.length ≤ 140737488355328 := by have h2 := hVs.2.1; omega
          have I3 := I2.alloc (.cells #[.string es[j].s, .slice es[j].A es[j].l.length es[j].c] 47)
          have hbox := Blk.new wr 47 #[.string es[j].s, .slice es[j].A es[j].l.length es[j].c]
          have hc := refSecret_any a b c d e f h es[j].s es[j].l es[j].A es[j].c _ (hVs.now ((Below.refl w.heap.size wr).alloc b1.size (.cells #[.string es[j].s, .slice es[j].A es[j].l.length es[j].c] 47)) (by have := b1.size; simp; omega))
          clear hVs
          generalize hn : rb (nbad a b c d e f h es[j].s es[j].l) es[j].l = n at hc hat
          clear hn
          by_cases hn0 : n = 0
          · have z1 : (n != 0) = false := by simp [hn0]
            have hat2 := lay (hat.out.trans (if_neg (by simpa using hn0)))
            clear hn0 hat
            go_wp2_with fail
            refine hc.mono ?_
            rintro x w1 ⟨rfl, hb1⟩
            have I4 := I3.next hb1
            have hbx := hbox.below hb1 hbox.lt
            have x0 := hbx.cell 0
            simp at x0
            have x9 := hbx.lt
            clear c0 c1 c2 c3 c4 c5 c6 l1 l2 n0 n1 n2 l3 e0 e1 hbox hbx I2 I3 hb1 hc b1
            obtain ⟨⟨⟨c0, c1, c2, c3, c4, c5, c6⟩, l1, l2, b1⟩, ⟨n0, n1, n2⟩, l3⟩ := id I4
            go_wp2_with fail
            by_cases hj0 : j = 0
            · subst hj0
              have hat3 := lay (hat2.out.trans (if_neg (by rw [aheadE_zero]; simp [behind])))
              have hV2 : Hid (ebad a b c d e f h none es = ebad a b c d e f h (aheadE es (0 + 1)) (es.drop (0 + 1))) := lay (hV.out.trans (hat3.out.trans (by rw [hsu.out])))
              clear hat2 hat3
              go_quiet (fail)
              go_wp2_with fail
              exact ⟨⟨0 + 1, by omega, by go_num, hV2, I4.drewN _⟩, by simp [intOf]; omega⟩
            · obtain ⟨k, rfl⟩ : ∃ k, j = k + 1 := ⟨j - 1, by omega⟩
              have hk1 : k < es.length := by omega
              obtain ⟨bk', off', e', _, y0, _, _⟩ := (hv.below b1).at_ hk1
              cases e'
              have hah := lay (aheadE_succ es hk1)
              have hk2 : (0 : Int) ≤ (k : Int) := by omega
              have hwk : IntKind.i64.wrap (k : Int) = (k : Int) := IntWalk.i64_in _ (by omega)
              have hk3 : (k : Int) < (es.length : Int) := by omega
              cases hs1 : Op.bytesLess es[k + 1].s.toList es[k].s.toList
              · cases hs2 : (es[k + 1].s.toList == es[k].s.toList)
                · have hb0 := sle_no hs1 hs2
                  have hV2 : Hid (ebad a b c d e f h none es = ebad a b c d e f h (aheadE es (k + 1 + 1)) (es.drop (k + 1 + 1))) := lay (hV.out.trans (hat2.out.trans ((if_neg (by rw [hah.out]; show ¬ sle _ _ = true; rw [hb0]; simp)).trans (by rw [hsu.out]))))
                  clear hat2 hb0
                  go_quiet (fail)
                  go_wp2_with fail
                  exact ⟨⟨k + 1 + 1, by omega, by go_num, hV2, I4.drewN _⟩, by simp [intOf]; omega⟩
                · have hb0 := sle_same hs2
                  have hr := lay (hV.out.trans (hat2.out.trans (if_pos (by rw [hah.out]; exact hb0))))
                  clear hat2 hb0
                  go_quiet (fail)
                  go_wp2_with fail
                  go_ret
                  exact ⟨ret_int hr.out.symm, (I4.drewN _).below⟩
              · have hb0 := sle_less hs1
                have hr := lay (hV.out.trans (hat2.out.trans (if_pos (by rw [hah.out]; exact hb0))))
                clear hat2 hb0
                go_quiet (fail)
                go_wp2_with fail
                go_ret
                exact ⟨ret_int hr.out.symm, (I4.drewN _).below⟩
          · have z1 : (n != 0) = true := by simpa using hn0
            have hr := lay (hV.out.trans (hat.out.trans (if_pos (by simpa using hn0))))
            clear hn0 hat
            go_wp2_with fail
            refine hc.mono ?_
            rintro x w1 ⟨rfl, hb1⟩
            have I4 := I3.next hb1
            go_wp2_with fail
            go_ret
            exact ⟨ret_int hr.out.symm, I4.below⟩
        · have hr := lay (hV.out.trans (ebad_end a b c d e f h _ es (by omega)))
          go_wp2_with fail
          go_ret
          exact ⟨ret_int hr.out.symm, b1⟩

theorem refLeaf_any (a b c d e f h : Int) (lf : Bool) (es : List E) (ks : List K) (A : Option Addr) (cap : Nat) (A' : Option Addr) (cap' : Nat) (w : World) (hv : Es w w.heap.size es A cap) (hk : Ks w w.heap.size ks A' cap') :
    Calls Try.prog 128 #[.agg #[.int .i64 a, .int .i64 b, .int .i64 c, .int .i64 d, .int .i64 e, .int .i64 f, .int .i64 h], .agg #[.bool lf, .slice A es.length cap, .slice A' ks.length cap']] w fun x w' => x = .returned (.int .i64 (if 0 < ks.length ∨ 4 < es.length then 60 else ebad a b c d e f h none es)) ∧ Below w.heap.size w w' := by
  by_cases g1 : 0 < ks.length
  · rw [if_pos (Or.inl g1)]
    exact leaf_bad1 a b c d e f h lf _ _ A cap A' cap' w g1 (by have := hk.2.1; omega)
  · rw [show ks.length = 0 by omega]
    by_cases g2 : 4 < es.length
    · rw [if_pos (Or.inr g2)]
      exact leaf_bad2 a b c d e f h lf _ A cap A' cap' w (by omega) (by have := hv.2.1; omega)
    · rw [if_neg (by omega)]
      exact leaf_loop a b c d e f h lf es A cap A' cap' w hv (by omega)

end Go.Proofs.Ytoenkkbcpafanaa.nodes
