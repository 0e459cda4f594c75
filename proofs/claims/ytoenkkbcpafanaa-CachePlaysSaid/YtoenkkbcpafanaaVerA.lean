/- Named and Right of the document: what is wrong with a secret. -/
import Derived.Test.YtoenkkbcpafanaaVer
import Derived.BigQuiet
import Derived.Deep.QuietTactic


namespace Go.Proofs.Ytoenkkbcpafanaa.vers
set_option linter.unusedVariables false
set_option linter.unusedSimpArgs false
open Go.RowKit Go.Proofs.Ytoenkkbcpafanaa.base Go.Proofs.Ytoenkkbcpafanaa.quotas

/-- behind a call's beginning: its own boxes hold the quota and the secret -/
def Bx (w : World) (a b c d e f h : Int) (s : ByteArray) (u : Value) (wr : World) : Prop :=
  In7 w w.heap.size a b c d e f h wr ∧ (wr.cell? ⟨w.heap.size + 1, 0, none⟩ = some (.string s) ∧ wr.cell? ⟨w.heap.size + 1, 1, none⟩ = some u) ∧ w.heap.size + 1 < wr.heap.size
theorem Bx.new (w : World) (a b c d e f h : Int) (s : ByteArray) (u : Value) : Bx w a b c d e f h s u ((w.alloc (.cells #[.int .i64 a, .int .i64 b, .int .i64 c, .int .i64 d, .int .i64 e, .int .i64 f, .int .i64 h] 113)).alloc (.cells #[.string s, u] 47)) := by
  have k := Blk.new (w.alloc (.cells #[.int .i64 a, .int .i64 b, .int .i64 c, .int .i64 d, .int .i64 e, .int .i64 f, .int .i64 h] 113)) 47 #[.string s, u]
  rw [World.size_alloc] at k
  exact ⟨(In7.new w a b c d e f h).alloc _, ⟨k.cell 0, k.cell 1⟩, by simp⟩
theorem Bx.next {w wr w' : World} {a b c d e f h : Int} {s : ByteArray} {u : Value} (h1 : Bx w a b c d e f h s u wr) (hb : Below wr.heap.size wr w') : Bx w a b c d e f h s u w' := by
  obtain ⟨h1, ⟨h2, h3⟩, h4⟩ := h1
  have hs := hb.size
  exact ⟨h1.next hb, ⟨by rw [hb.cell (by simpa using h4)]; exact h2, by rw [hb.cell (by simpa using h4)]; exact h3⟩, by omega⟩
theorem Bx.alloc {w wr : World} {a b c d e f h : Int} {s : ByteArray} {u : Value} (h1 : Bx w a b c d e f h s u wr) (o : Obj) : Bx w a b c d e f h s u (wr.alloc o) := h1.next ((Below.refl _ _).alloc (Nat.le_refl _) _)
theorem Bx.drewN {w wr : World} {a b c d e f h : Int} {s : ByteArray} {u : Value} (h1 : Bx w a b c d e f h s u wr) (n : Nat) : Bx w a b c d e f h s u (wr.drewN n) := h1.next ⟨rfl, rfl, rfl, Nat.le_refl _, fun _ _ => rfl⟩
theorem Bx.below {w wr : World} {a b c d e f h : Int} {s : ByteArray} {u : Value} (h1 : Bx w a b c d e f h s u wr) : Below w.heap.size w wr := h1.1.2.2.2

/-- a round's head: so far nothing is wrong -/
def NHead (w : World) (a b c d e f h : Int) (s : ByteArray) (l : List V) (A : Option Addr) (cap : Nat) (x : Value) (wr : World) : Prop :=
  ∃ j : Nat, j ≤ l.length ∧ x = .int .i64 j ∧ Hid (vbad c d 0 l = vbad c d (before l j) (l.drop j)) ∧ 0 ≤ before l j ∧ Bx w a b c d e f h s (.slice A l.length cap) wr

theorem empty_no {s : ByteArray} (h : s.size ≠ 0) : s.toList.isEmpty = false := by
  rw [ByteArray.toList_eq]
  have e : s.data.toList.length = s.size := by simp
  cases hl : s.data.toList with
  | nil => rw [hl] at e; simp at e; omega
  | cons _ _ => rfl
theorem empty_yes {s : ByteArray} (h : s.size = 0) : s.toList.isEmpty = true := by
  rw [ByteArray.toList_eq]
  have e : s.data.toList.length = s.size := by simp
  cases hl : s.data.toList with
  | nil => rfl
  | cons _ _ => rw [hl] at e; simp at e; omega
theorem ret_int {k : IntKind} {a b : Int} (h : a = b) : Ending.returned (.int k a) = .returned (.int k b) := by rw [h]
theorem len_in {w : World} {l : List V} {A : Option Addr} {c : Nat} (h : Vs w w.heap.size l A c) : l.length ≤ 140737488355328 := by have h1 := h.1; have h2 := h.2.1; omega

set_option maxRecDepth 100000 in
set_option maxHeartbeats 1000000 in
theorem named_loop (a b c d e f h : Int) (s : ByteArray) (l : List V) (A : Option Addr) (cap : Nat) (w : World) (hk : ok a b c d e f h) (hv : Vs w w.heap.size l A cap) (h1 : s.size ≠ 0) (h2 : (s.size : Int) ≤ b) (h3 : (l.length : Int) ≤ e) :
    Calls Try.prog 219 #[.agg #[.int .i64 a, .int .i64 b, .int .i64 c, .int .i64 d, .int .i64 e, .int .i64 f, .int .i64 h], .agg #[.string s, .slice A l.length cap]] w fun x w' => x = .returned (.int .i64 (vbad c d 0 l)) ∧ Below w.heap.size w w' := by
  have hlen := len_in hv
  have hs0 := empty_no h1
  go_enter Try.func219, Try.ntmps219
  go_wp2_with (go_at_call 58; refine (refRight_ok _ _ _ _ _ _ _ _ hk).mono ?_; rintro x w1 ⟨rfl, hb1⟩; have I1 := (Bx.new w a b c d e f h s (.slice A l.length cap)).next hb1; clear hb1; obtain ⟨⟨⟨c0, c1, c2, c3, c4, c5, c6⟩, l1, l2, b1⟩, ⟨e0, e1⟩, l3⟩ := id I1)
  clear c0 c1 c2 c3 c4 c5 c6 l1 l2 b1 e0 e1 l3
  go_loopw [28] (fun x wr => NHead w a b c d e f h s l A cap x wr) (fun x _ => l.length - (intOf x).toNat)
  case atStart => exact ⟨0, Nat.zero_le _, rfl, lay (by rw [before_zero]; rfl), by rw [before_zero]; omega, I1⟩
  case round =>
    obtain ⟨j, hj, rfl, hV, hn, I2⟩ := hrel
    obtain ⟨⟨⟨c0, c1, c2, c3, c4, c5, c6⟩, l1, l2, b1⟩, ⟨e0, e1⟩, l3⟩ := id I2
    by_cases hlt : j < l.length
    · obtain ⟨bk, off, rfl, hbk, v0, v1, v2⟩ := (hv.below b1).at_ hlt
      obtain ⟨fx1, fx2⟩ : -9223372036854775808 ≤ l[j].n ∧ l[j].n ≤ 9223372036854775807 := (hv.2.2.2.2 _ (List.getElem_mem hlt)).1
      go_wp2_with fail
      by_cases g1 : l[j].n < 1
      · have d1 : decide (l[j].n < 1) = true := by simpa using g1
        go_quiet (fail)
        go_wp2_with fail
        go_ret
        exact ⟨ret_int (by rw [hV.out, vbad_at _ _ _ _ hlt]; rw [if_pos (Or.inl (by omega))]), ((I2.alloc _).drewN _).below⟩
      · have d1 : decide (l[j].n < 1) = false := by simpa using g1
        by_cases g2 : (1073741824 : Int) < l[j].n
        · have d2 : decide ((1073741824 : Int) < l[j].n) = true := by simpa using g2
          go_quiet (fail)
          go_wp2_with fail
          go_ret
          exact ⟨ret_int (by rw [hV.out, vbad_at _ _ _ _ hlt]; rw [if_pos (Or.inr (by omega))]), ((I2.alloc _).drewN _).below⟩
        · have d2 : decide ((1073741824 : Int) < l[j].n) = false := by simpa using g2
          by_cases g3 : j = 0
          · subst g3
            have hb0 : Hid (¬ (l[0].n ≤ before l 0 ∨ (1073741824 : Int) < l[0].n)) := lay (by rw [before_zero]; omega)
            by_cases g5 : c < (l[0].v.size : Int)
            · have d5 : decide (c < (l[0].v.size : Int)) = true := by simpa using g5
              go_quiet (fail)
              go_wp2_with fail
              go_ret
              exact ⟨ret_int (by rw [hV.out, vbad_at _ _ _ _ hlt]; rw [if_neg hb0.out, if_pos (Or.inl (by omega))]), ((I2.alloc _).drewN _).below⟩
            · have d5 : decide (c < (l[0].v.size : Int)) = false := by simpa using g5
              by_cases g6 : d < (l[0].t.size : Int)
              · have d6 : decide (d < (l[0].t.size : Int)) = true := by simpa using g6
                go_quiet (fail)
                go_wp2_with fail
                go_ret
                exact ⟨ret_int (by rw [hV.out, vbad_at _ _ _ _ hlt]; rw [if_neg hb0.out, if_pos (Or.inr (by omega))]), ((I2.alloc _).drewN _).below⟩
              · have d6 : decide (d < (l[0].t.size : Int)) = false := by simpa using g6
                have hV2 := lay (hV.out.trans ((vbad_at _ _ _ _ hlt).trans (by rw [if_neg hb0.out, if_neg (by omega), before_succ l hlt] : _ = vbad c d (before l (0 + 1)) (l.drop (0 + 1)))))
                have hn0 : 0 ≤ before l (0 + 1) := by rw [before_succ l hlt]; omega
                go_quiet (fail)
                go_wp2_with fail
                exact ⟨⟨0 + 1, by omega, by go_num, hV2, hn0, (I2.alloc _).drewN _⟩, by simp [intOf]; omega⟩
          · obtain ⟨k, rfl⟩ : ∃ k, j = k + 1 := ⟨j - 1, by omega⟩
            have hk1 : k < l.length := by omega
            obtain ⟨bk', off', e', _, y0, y1, y2⟩ := (hv.below b1).at_ hk1
            cases e'
            have hbw : bk < wr.heap.size := by omega
            have hk2 : (0 : Int) ≤ (k : Int) := by omega
            have hwk : IntKind.i64.wrap (k : Int) = (k : Int) := IntWalk.i64_in _ (by omega)
            have hk3 : (k : Int) < (l.length : Int) := by omega
            by_cases g4 : l[k + 1].n ≤ l[k].n
            · have d4 : decide (l[k + 1].n ≤ l[k].n) = true := by simpa using g4
              go_quiet (fail)
              go_wp2_with fail
              go_ret
              exact ⟨ret_int (by rw [hV.out, vbad_at _ _ _ _ hlt]; rw [if_pos (Or.inl (by rw [before_succ l hk1]; omega))]), ((I2.alloc _).drewN _).below⟩
            · have d4 : decide (l[k + 1].n ≤ l[k].n) = false := by simpa using g4
              have hb0 : Hid (¬ (l[k + 1].n ≤ before l (k + 1) ∨ (1073741824 : Int) < l[k + 1].n)) := lay (by rw [before_succ l hk1]; omega)
              by_cases g5 : c < (l[k + 1].v.size : Int)
              · have d5 : decide (c < (l[k + 1].v.size : Int)) = true := by simpa using g5
                go_quiet (fail)
                go_wp2_with fail
                go_ret
                exact ⟨ret_int (by rw [hV.out, vbad_at _ _ _ _ hlt]; rw [if_neg hb0.out, if_pos (Or.inl (by omega))]), ((I2.alloc _).drewN _).below⟩
              · have d5 : decide (c < (l[k + 1].v.size : Int)) = false := by simpa using g5
                by_cases g6 : d < (l[k + 1].t.size : Int)
                · have d6 : decide (d < (l[k + 1].t.size : Int)) = true := by simpa using g6
                  go_quiet (fail)
                  go_wp2_with fail
                  go_ret
                  exact ⟨ret_int (by rw [hV.out, vbad_at _ _ _ _ hlt]; rw [if_neg hb0.out, if_pos (Or.inr (by omega))]), ((I2.alloc _).drewN _).below⟩
                · have d6 : decide (d < (l[k + 1].t.size : Int)) = false := by simpa using g6
                  have hV2 := lay (hV.out.trans ((vbad_at _ _ _ _ hlt).trans (by rw [if_neg hb0.out, if_neg (by omega), before_succ l hlt] : _ = vbad c d (before l (k + 1 + 1)) (l.drop (k + 1 + 1)))))
                  have hn0 : 0 ≤ before l (k + 1 + 1) := by rw [before_succ l hlt]; omega
                  go_quiet (fail)
                  go_wp2_with fail
                  exact ⟨⟨k + 1 + 1, by omega, by go_num, hV2, hn0, (I2.alloc _).drewN _⟩, by simp [intOf]; omega⟩
    · go_wp2_with fail
      go_ret
      exact ⟨ret_int (by rw [hV.out, vbad_end _ _ _ _ (by omega)]), b1⟩
end Go.Proofs.Ytoenkkbcpafanaa.vers
