/- The laws of power. -/
import Derived.Test.YtchghlbiongccaaPwC


namespace Go.Proofs.Ytchghlbiongccaa.powers
set_option linter.unusedVariables false
set_option linter.unusedSimpArgs false
open Go.RowKit Go.Proofs.Ytchghlbiongccaa.base

/-- a power and the document's, side by side: the same -/
def Both (w : World) (g d : Nat) (L W : Int) : Prop := Blk w g 119 (PC L W) ∧ Blk w d 121 (DC (bL L) (aL L) W) ∧ In L
theorem Both.st {w w' : World} {g d : Nat} {L W : Int} {S : Nat → Prop} (h : Both w g d L W) (hs : St S w w') (h1 : ¬ S g) (h2 : ¬ S d) : Both w' g d L W := ⟨hs.blk h.1 h1, hs.blk h.2.1 h2, h.2.2⟩
theorem Both.step {w : World} {g d : Nat} {L W : Int} (h : Both w g d L W) (x : OP) (hgd : g ≠ d) :
    Calls Try.prog 18 #[.pointer (some ⟨g, 0, none⟩), .pointer (some ⟨d, 0, none⟩), .agg #[.int .i64 x.k, .int .i64 x.n, .bool x.on]] w fun e w' => e = .returned (.bool true) ∧ (∃ L' W', Both w' g d L' W') ∧ St (two g d) w w' :=
  (step_ok x h.1 h.2.1 h.2.2 h.2.2 hgd).mono fun e w' ⟨b, L', W', M', V', h1, h2, h3, h4, h5, h6, _, h7⟩ => by
    obtain ⟨rfl, rfl, rfl⟩ := h6 rfl rfl
    exact ⟨h1, ⟨L', W', h2, h3, h4⟩, h7⟩
theorem Both.told {w : World} {g d : Nat} {L W : Int} (h : Both w g d L W) :
    Calls Try.prog 19 #[.pointer (some ⟨g, 0, none⟩), .pointer (some ⟨d, 0, none⟩)] w fun e w' => e = .returned (.bool true) ∧ St none_ w w' := told_ok h.1 h.2.1 h.2.2

set_option maxRecDepth 100000 in
set_option maxHeartbeats 4000000 in
theorem law_plays (l : List OP) (A : Option Addr) (c : Nat) (w : World) (hX : Xs w w.heap.size l A c) :
    Calls Try.prog 3 #[.slice A l.length c] w fun e w' => e = .returned (.bool true) ∧ Below w.heap.size w w' := by
  have hlen : l.length ≤ 140737488355328 := by have := hX.2.1; omega
  have h0 := awake_ok w
  go_enter Try.func3, Try.ntmps3
  go_wp2_with fail
  refine h0.mono ?_
  rintro e w1 ⟨rfl, b1⟩
  have h1 := new_ok w1
  go_wp2_with fail
  refine h1.mono ?_
  rintro e w2 ⟨rfl, k1, b2, z2⟩
  have h2 := new_ok w2
  go_wp2_with fail
  refine h2.mono ?_
  rintro e w3 ⟨rfl, k2, b3, z3⟩
  have k1b := k1.below b3 k1.lt
  clear h0 h1 h2
  have h3 := refNew_ok w3
  have Z2 := lay z2
  have Z3 := lay z3
  clear z2 z3
  go_wp2_with fail
  refine h3.mono ?_
  rintro e w4 ⟨rfl, k3, b4, z4⟩
  have k1c := k1b.below b4 k1b.lt
  have k2c := k2.below b4 k2.lt
  have Z4 := lay z4
  clear z4 k1 k2 k1b
  have h4 := refNew_ok w4
  go_wp2_with fail
  refine h4.mono ?_
  rintro e w5 ⟨rfl, k4, b5, z5⟩
  have k1d := k1c.below b5 k1c.lt
  have k2d := k2c.below b5 k2c.lt
  have k3d := k3.below b5 k3.lt
  have e3 : w3.heap.size = w1.heap.size + 2 := by have := Z2.out; have := Z3.out; omega
  have e2 := Z2.out
  have e4 : w4.heap.size = w1.heap.size + 3 := by have := Z4.out; omega
  have hb0 : Below w.heap.size w w5 := b1.trans ((b2.mono b1.size).trans ((b3.mono (by have := b1.size; omega)).trans ((b4.mono (by have := b1.size; omega)).trans (b5.mono (by have := b1.size; omega)))))
  have lw := b1.size
  rw [e3] at k3d ⊢
  rw [e2] at k2d ⊢
  rw [e4] at k4 ⊢
  clear h3 h4 k1c k2c k3 z5 b1 b2 b3 b4 b5 Z2 Z3 Z4 e2 e3 e4
  have hA0 : Both w5 w1.heap.size (w1.heap.size + 2) (-1) 0 := ⟨k1d, k3d, by unfold In; omega⟩
  have hB0 : Both w5 (w1.heap.size + 1) (w1.heap.size + 3) (-1) 0 := ⟨k2d, k4, by unfold In; omega⟩
  generalize w1.heap.size = g at *
  clear k1d k2d k3d k4
  go_wp2_with fail
  go_loopw [8] (fun i wr => ∃ (j : Nat) (L W M V : Int), j ≤ l.length ∧ i = .int .i64 (j : Int) ∧ Both wr g (g + 2) L W ∧ Both wr (g + 1) (g + 3) M V ∧ Below w.heap.size w wr) (fun i _ => l.length - (intOf i).toNat)
  case atStart => exact ⟨0, _, _, _, _, Nat.zero_le _, rfl, hA0, hB0, hb0⟩
  case round =>
    clear hA0 hB0 hb0
    obtain ⟨j, L, W, M, V, hj, rfl, hA, hB, hb⟩ := hrel
    by_cases hlt : j < l.length
    · obtain ⟨bk, off, rfl, hbk, x0, x1, x2⟩ := (hX.below hb).at_ hlt
      have hbs := hb.size
      have hH := lay hX
      clear hX
      generalize l[j] = x at x0 x1 x2
      cases hon : x.on with
      | true =>
        rw [hon] at x2
        have c1 := hB.step x (by omega)
        rw [hon] at c1
        clear hH hon
        go_wp2_with fail
        refine c1.mono ?_
        rintro e w1 ⟨rfl, ⟨L', W', m1⟩, s1⟩
        have o1 := hA.st s1 (by unfold two; omega) (by unfold two; omega)
        clear c1 hA hB
        have t1 := o1.told
        go_wp2_with fail
        refine t1.mono ?_
        rintro e w2 ⟨rfl, s2⟩
        have m2 := m1.st s2 (fun h => h) (fun h => h)
        have o2 := o1.st s2 (fun h => h) (fun h => h)
        clear m1 o1 t1
        have t2 := m2.told
        go_wp2_with fail
        refine t2.mono ?_
        rintro e w3 ⟨rfl, s3⟩
        have m3 := m2.st s3 (fun h => h) (fun h => h)
        have o3 := o2.st s3 (fun h => h) (fun h => h)
        go_wp2_with fail
        refine ⟨⟨j + 1, _, _, _, _, hlt, by go_num, o3, m3, ?_⟩, by first | (simp [intOf]; done) | (simp [intOf]; omega) | omega⟩
        refine hb.trans (Below.trans ?_ (Below.trans (s2.below (fun k h => absurd h (fun h => h)) (by have := hb.size; have := s1.size; omega)) (s3.below (fun k h => absurd h (fun h => h)) (by have := hb.size; have := s1.size; have := s2.size; omega))))
        exact s1.below (fun k h => by rcases h with h | h <;> omega) hb.size

      | false =>
        rw [hon] at x2
        have c1 := hA.step x (by omega)
        rw [hon] at c1
        clear hH hon
        go_wp2_with fail
        refine c1.mono ?_
        rintro e w1 ⟨rfl, ⟨L', W', m1⟩, s1⟩
        have o1 := hB.st s1 (by unfold two; omega) (by unfold two; omega)
        clear c1 hA hB
        have t1 := m1.told
        go_wp2_with fail
        refine t1.mono ?_
        rintro e w2 ⟨rfl, s2⟩
        have m2 := m1.st s2 (fun h => h) (fun h => h)
        have o2 := o1.st s2 (fun h => h) (fun h => h)
        clear m1 o1 t1
        have t2 := o2.told
        go_wp2_with fail
        refine t2.mono ?_
        rintro e w3 ⟨rfl, s3⟩
        have m3 := m2.st s3 (fun h => h) (fun h => h)
        have o3 := o2.st s3 (fun h => h) (fun h => h)
        go_wp2_with fail
        refine ⟨⟨j + 1, _, _, _, _, hlt, by go_num, m3, o3, ?_⟩, by first | (simp [intOf]; done) | (simp [intOf]; omega) | omega⟩
        refine hb.trans (Below.trans ?_ (Below.trans (s2.below (fun k h => absurd h (fun h => h)) (by have := hb.size; have := s1.size; omega)) (s3.below (fun k h => absurd h (fun h => h)) (by have := hb.size; have := s1.size; have := s2.size; omega))))
        exact s1.below (fun k h => by rcases h with h | h <;> omega) hb.size

    · obtain rfl : j = l.length := by omega
      have t1 := hA.told
      go_wp2_with fail
      refine t1.mono ?_
      rintro e w2 ⟨rfl, s2⟩
      have t2 := (hB.st s2 (fun h => h) (fun h => h)).told
      go_wp2_with fail
      refine t2.mono ?_
      rintro e w3 ⟨rfl, s3⟩
      go_wp2_with fail
      go_ret
      exact ⟨rfl, hb.trans ((s2.trans s3).below (fun k h => absurd h (fun h => h)) hb.size)⟩

end Go.Proofs.Ytchghlbiongccaa.powers
