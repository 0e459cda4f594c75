/- A power, and the document's. -/
import Derived.Test.YtoenkkbcpafanaaPwA
import Derived.Test.YtoenkkbcpafanaaProg
import Derived.Below
import Derived.IntWalk


namespace Go.Proofs.Ytoenkkbcpafanaa.powers
set_option linter.unusedVariables false
set_option linter.unusedSimpArgs false
open Go.RowKit Go.Proofs.Ytoenkkbcpafanaa.base

theorem lay {p : Prop} (h : p) : Hid p := h
def one (g k : Nat) : Prop := k = g
/-- but for the blocks S all that was there is as it was -/
structure St (S : Nat → Prop) (w w' : World) : Prop where
  os : w'.os = w.os
  tape : w'.tape = w.tape
  output : w'.output = w.output
  size : w.heap.size ≤ w'.heap.size
  block : ∀ k, k < w.heap.size → ¬ S k → w'.heap[k]? = w.heap[k]?
section
variable {w w' w2 : World} {g k : Nat} {t : TypeId} {cs : Array Value} {S S2 : Nat → Prop}
theorem St.refl (S : Nat → Prop) (w : World) : St S w w := ⟨rfl, rfl, rfl, Nat.le_refl _, fun _ _ _ => rfl⟩
theorem St.trans (h : St S w w') (k : St S w' w2) : St S w w2 := ⟨k.os.trans h.os, k.tape.trans h.tape, k.output.trans h.output, Nat.le_trans h.size k.size, fun i hi hn => (k.block i (Nat.lt_of_lt_of_le hi h.size) hn).trans (h.block i hi hn)⟩
theorem St.mono (h : St S w w') (hS : ∀ k, S k → S2 k) : St S2 w w' := ⟨h.os, h.tape, h.output, h.size, fun i hi hn => h.block i hi fun hs => hn (hS i hs)⟩
theorem St.set (h : St S w w') (hg : S g) (i : Nat) (u : Value) : St S w (w'.setCell ⟨g, i, none⟩ u) := by
  have b := (Below.refl 0 w').setCell (p := ⟨g, i, none⟩) (Nat.zero_le _) u
  refine ⟨b.os.trans h.os, b.tape.trans h.tape, b.output.trans h.output, by rw [World.size_setCell]; exact h.size, fun k hk hn => (Below.heap_setCell w' _ u k ?_).trans (h.block k hk hn)⟩
  intro e
  exact hn (by rw [e]; exact hg)
theorem St.blk (h : St S w w') (hb : Blk w k t cs) (hk : ¬ S k) : Blk w' k t cs := (h.block k hb.lt hk).trans hb
theorem St.below {B : Nat} (h : St S w w') (hS : ∀ k, S k → B ≤ k) (hB : B ≤ w.heap.size) : Below B w w' := ⟨h.os, h.tape, h.output, h.size, fun k hk => h.block k (by omega) (fun hs => by have := hS k hs; omega)⟩
theorem St.of_below (h : Below w.heap.size w w') : St S w w' := ⟨h.os, h.tape, h.output, h.size, fun k hk _ => h.block k hk⟩
end
/-- a power: what is left (-1: without end), how much was written -/
abbrev PC (L W : Int) : Array Value := #[.int .i64 L, .int .i64 W]
/-- the document's -/
abbrev DC (b : Bool) (a W : Int) : Array Value := #[.bool b, .int .i64 a, .int .i64 W]
def cutL (L n : Int) : Int := if L = 0 then 0 else min (max n (-1)) 1073741824
def spL (L : Int) : Int := if L ≤ 0 then L else L - 1
def aL (L : Int) : Int := if L ≤ 0 then 0 else L
def bL (L : Int) : Bool := decide (L ≠ 0)
def In (L : Int) : Prop := -1 ≤ L ∧ L ≤ 1073741824
theorem in_cut (L n : Int) : In (cutL L n) := by unfold In cutL; split <;> omega
theorem in_sp {L : Int} (h : In L) : In (spL L) := by unfold In spL at *; split <;> omega
def eSp (L : Int) : Int := if L = 0 then 110 else 0
/-- one more written -/
def nx (W : Int) : Int := wrap64 (W + 1)
def wSp (L W : Int) : Int := if L = 0 then W else nx W
variable {g : Nat} {L W : Int} {w : World}

set_option maxRecDepth 100000 in
set_option maxHeartbeats 2000000 in
theorem writes_ok (hb : Blk w g 219 (PC L W)) (hI : In L) :
    Calls Try.prog 111 #[.pointer (some ⟨g, 0, none⟩)] w fun e w' => e = .returned (.int .i64 W) ∧ w' = w := by
  have x0 := hb.cell 0
  have x1 := hb.cell 1
  simp only [List.getElem?_toArray, List.getElem?_cons_zero, List.getElem?_cons_succ] at x0 x1
  clear hb hI
  go_enter Try.func111, Try.ntmps111
  go_wp2_with fail
  go_ret
  exact ⟨by first | rfl | (unfold bL; congr 2; by_cases h : L = 0 <;> simp [h]), rfl⟩

set_option maxRecDepth 100000 in
set_option maxHeartbeats 2000000 in
theorem on_ok (hb : Blk w g 219 (PC L W)) :
    Calls Try.prog 61 #[.pointer (some ⟨g, 0, none⟩)] w fun e w' => e = .returned (.bool (bL L)) ∧ w' = w := by
  have x0 := hb.cell 0
  simp only [List.getElem?_toArray, List.getElem?_cons_zero, List.getElem?_cons_succ] at x0
  clear hb
  go_enter Try.func61, Try.ntmps61
  go_wp2_with fail
  go_ret
  exact ⟨by unfold bL; by_cases h : L = 0 <;> simp [h], rfl⟩

set_option maxRecDepth 100000 in
set_option maxHeartbeats 2000000 in
theorem restore_ok (hb : Blk w g 219 (PC L W)) :
    Calls Try.prog 97 #[.pointer (some ⟨g, 0, none⟩)] w fun e w' => e = .returned (.tuple #[]) ∧ Blk w' g 219 (PC (-1) W) ∧ St (one g) w w' := by
  have x0 := hb.cell 0
  have f0 := hb.frozen 0
  have lg := hb.lt
  simp only [List.getElem?_toArray, List.getElem?_cons_zero, List.getElem?_cons_succ] at x0
  have kb := hb.put 0 (.int .i64 (-1))
  go_enter Try.func97, Try.ntmps97
  go_wp2_with fail
  refine bodyPost_end (v := .tuple #[]) (by simp [results, Try.results97, go_sem]) rfl ⟨rfl, kb, (St.refl (one g) w).set rfl 0 _⟩

set_option maxRecDepth 100000 in
set_option maxHeartbeats 2000000 in
theorem new_ok (w : World) :
    Calls Try.prog 55 #[] w fun e w' => e = .returned (.pointer (some ⟨w.heap.size, 0, none⟩)) ∧ Blk w' w.heap.size 219 (PC (-1) 0) ∧ Below w.heap.size w w' ∧ w'.heap.size = w.heap.size + 1 := by
  have kb := Blk.new w 219 (PC (-1) 0)
  have bb := (Below.refl w.heap.size w).alloc (Nat.le_refl _) (.cells (PC (-1) 0) 219)
  go_enter Try.func55, Try.ntmps55
  go_wp2_with fail
  go_ret
  exact ⟨rfl, kb, bb, by simp⟩

set_option maxRecDepth 100000 in
set_option maxHeartbeats 2000000 in
theorem refNew_ok (w : World) :
    Calls Try.prog 27 #[] w fun e w' => e = .returned (.pointer (some ⟨w.heap.size, 0, none⟩)) ∧ Blk w' w.heap.size 199 (DC true 0 0) ∧ Below w.heap.size w w' ∧ w'.heap.size = w.heap.size + 1 := by
  have kb := Blk.new w 199 (DC true 0 0)
  have bb := (Below.refl w.heap.size w).alloc (Nat.le_refl _) (.cells (DC true 0 0) 199)
  go_enter Try.func27, Try.ntmps27
  go_wp2_with fail
  go_ret
  exact ⟨rfl, kb, bb, by simp⟩

set_option maxRecDepth 100000 in
set_option maxHeartbeats 2000000 in
theorem cut_ok (n : Int) (hb : Blk w g 219 (PC L W)) (hI : In L) :
    Calls Try.prog 64 #[.pointer (some ⟨g, 0, none⟩), .int .i64 n] w fun e w' => e = .returned (.tuple #[]) ∧ Blk w' g 219 (PC (cutL L n) W) ∧ St (one g) w w' := by
  have x0 := hb.cell 0
  have f0 := hb.frozen 0
  have lg := hb.lt
  simp only [List.getElem?_toArray, List.getElem?_cons_zero, List.getElem?_cons_succ] at x0
  have kb := fun u => hb.put 0 (.int .i64 u)
  have ho := on_ok hb
  clear hI
  by_cases h : L = 0
  · have e1 : bL L = false := by simp [bL, h]
    rw [e1] at ho
    have e2 := lay (show cutL L n = L by unfold cutL; rw [if_pos h, h])
    clear e1 h
    go_enter Try.func64, Try.ntmps64
    go_wp2_with fail
    refine ho.mono ?_
    rintro e w' ⟨rfl, rfl⟩
    go_wp2_with fail
    refine bodyPost_end (v := .tuple #[]) (by simp [results, Try.results64, go_sem]) rfl ⟨rfl, by rw [e2.out]; exact hb, St.refl (one g) _⟩
  · have e1 : bL L = true := by simp [bL, h]
    rw [e1] at ho
    have e2 := lay (show cutL L n = min (max n (-1)) 1073741824 by unfold cutL; rw [if_neg h])
    clear e1 h
    go_enter Try.func64, Try.ntmps64
    go_wp2_with fail
    refine ho.mono ?_
    rintro e w' ⟨rfl, rfl⟩
    go_wp2_with fail
    all_goals refine bodyPost_end (v := .tuple #[]) (by simp [results, Try.results64, go_sem]) rfl ⟨rfl, ?_, (St.refl (one g) w').set rfl 0 _⟩
    all_goals rw [e2.out]
    all_goals first | (rw [show min (max n (-1)) 1073741824 = -1 from by omega]; exact kb _) | (rw [show min (max n (-1)) 1073741824 = 1073741824 from by omega]; exact kb _) | (rw [show min (max n (-1)) 1073741824 = n from by omega]; exact kb _)

set_option maxRecDepth 100000 in
set_option maxHeartbeats 2000000 in
theorem spend_ok (hb : Blk w g 219 (PC L W)) (hI : In L) :
    Calls Try.prog 161 #[.pointer (some ⟨g, 0, none⟩)] w fun e w' => e = .returned (.int .i64 (eSp L)) ∧ Blk w' g 219 (PC (spL L) (wSp L W)) ∧ St (one g) w w' := by
  have x0 := hb.cell 0
  have f0 := hb.frozen 0
  have x1 := hb.cell 1
  have f1 := hb.frozen 1
  have lg := hb.lt
  simp only [List.getElem?_toArray, List.getElem?_cons_zero, List.getElem?_cons_succ] at x0 x1
  have kb := hb.put 1 (.int .i64 (nx W))
  have ho := on_ok hb
  by_cases h : L = 0
  · have e1 : bL L = false := by simp [bL, h]
    rw [e1] at ho
    have e2 := lay (show eSp L = 110 by unfold eSp; rw [if_pos h])
    have e3 := lay (show spL L = L by unfold spL; rw [if_pos (by omega)])
    have e4 := lay (show wSp L W = W by unfold wSp; rw [if_pos h])
    clear e1 h
    go_enter Try.func161, Try.ntmps161
    go_wp2_with fail
    refine ho.mono ?_
    rintro e w' ⟨rfl, rfl⟩
    go_wp2_with fail
    go_ret
    exact ⟨by rw [e2.out]; rfl, by rw [e3.out, e4.out]; exact hb, St.refl (one g) _⟩
  · have e1 : bL L = true := by simp [bL, h]
    rw [e1] at ho
    have e2 := lay (show eSp L = 0 by unfold eSp; rw [if_neg h])
    have e4 := lay (show wSp L W = nx W by unfold wSp; rw [if_neg h])
    have HI := lay hI
    by_cases h1 : L = -1
    · have e3 := lay (show spL L = L by unfold spL; rw [if_pos (by omega)])
      have d1 : (!decide (L = -1)) = false := by simp [h1]
      have d2 : (L != -1) = false := by simp [h1]
      have d3 : decide (L = -1) = true := by simp [h1]
      clear e1 h hI h1
      go_enter Try.func161, Try.ntmps161
      go_wp2_with fail
      refine ho.mono ?_
      rintro e w' ⟨rfl, rfl⟩
      go_wp2_with fail
      go_ret
      exact ⟨by rw [e2.out]; rfl, by rw [e3.out, e4.out]; exact kb, (St.refl (one g) w').set rfl 1 _⟩
    · have h2 : 0 < L ∧ L ≤ 1073741824 := by unfold In at hI; omega
      have e3 := lay (show spL L = L - 1 by unfold spL; rw [if_neg (by omega)])
      have d1 : (!decide (L = -1)) = true := by simp [h1]
      have d2 : (L != -1) = true := by simp [h1]
      have d3 : decide (L = -1) = false := by simp [h1]
      have kb2 := kb.put 0 (.int .i64 (L - 1))
      obtain ⟨h3, h4⟩ := h2
      clear e1 h hI h1
      go_enter Try.func161, Try.ntmps161
      go_wp2_with fail
      refine ho.mono ?_
      rintro e w' ⟨rfl, rfl⟩
      go_wp2_with fail
      go_ret
      exact ⟨by rw [e2.out]; rfl, by rw [e3.out, e4.out]; exact kb2, ((St.refl (one g) w').set rfl 1 _).set rfl 0 _⟩

set_option maxRecDepth 100000 in
set_option maxHeartbeats 2000000 in
theorem refRestore_ok (hb : Blk w g 199 (DC (bL L) (aL L) W)) :
    Calls Try.prog 98 #[.pointer (some ⟨g, 0, none⟩)] w fun e w' => e = .returned (.tuple #[]) ∧ Blk w' g 199 (DC true 0 W) ∧ St (one g) w w' := by
  have f0 := hb.frozen 0
  have f1 := hb.frozen 1
  have x0 := hb.cell 0
  have x1 := hb.cell 1
  have lg := hb.lt
  simp only [List.getElem?_toArray, List.getElem?_cons_zero, List.getElem?_cons_succ] at x0 x1
  have kb := (hb.put 0 (.bool true)).put 1 (.int .i64 0)
  go_enter Try.func98, Try.ntmps98
  go_wp2_with fail
  refine bodyPost_end (v := .tuple #[]) (by simp [results, Try.results98, go_sem]) rfl ⟨rfl, kb, ((St.refl (one g) w).set rfl 0 _).set rfl 1 _⟩

set_option maxRecDepth 100000 in
set_option maxHeartbeats 2000000 in
theorem refCut_ok (n : Int) (hb : Blk w g 199 (DC (bL L) (aL L) W)) (hI : In L) :
    Calls Try.prog 96 #[.pointer (some ⟨g, 0, none⟩), .int .i64 n] w fun e w' => e = .returned (.tuple #[]) ∧ Blk w' g 199 (DC (bL (cutL L n)) (aL (cutL L n)) W) ∧ St (one g) w w' := by
  have f0 := hb.frozen 0
  have f1 := hb.frozen 1
  have lg := hb.lt
  have x0 := hb.cell 0
  have x1 := hb.cell 1
  have x2 := hb.cell 2
  simp only [List.getElem?_toArray, List.getElem?_cons_zero, List.getElem?_cons_succ] at x0 x1 x2
  clear hI
  by_cases h : L = 0
  · have e1 : bL L = false := by simp [bL, h]
    have e2 := lay (show cutL L n = L by unfold cutL; rw [if_pos h, h])
    rw [e1] at x0
    clear h
    go_enter Try.func96, Try.ntmps96
    go_wp2_with fail
    refine bodyPost_ret (v := .tuple #[]) (by simp [results, Try.results96, go_sem]) rfl ⟨rfl, by rw [e2.out]; exact hb, St.refl (one g) _⟩
  · have e1 : bL L = true := by simp [bL, h]
    have e2 := (show cutL L n = min (max n (-1)) 1073741824 by unfold cutL; rw [if_neg h])
    rw [e1] at x0 hb
    generalize cutL L n = M at e2 ⊢
    generalize aL L = a at x1 hb
    by_cases h0 : n = 0
    · subst h0
      obtain rfl : M = 0 := by omega
      have kb := (hb.put 1 (.int .i64 0)).put 0 (.bool false)
      clear e1 e2 h
      go_enter Try.func96, Try.ntmps96
      go_wp2_with fail
      refine bodyPost_end (v := .tuple #[]) (by simp [results, Try.results96, go_sem]) rfl ⟨rfl, kb, ((St.refl (one g) w).set rfl 1 _).set rfl 0 _⟩
    · by_cases h1 : 0 < n
      · have hb1 : bL M = true := by unfold bL; rw [decide_eq_true_iff]; omega
        have ha1 := lay (show aL M = min n 1073741824 by unfold aL; rw [if_neg (by omega)]; omega)
        have kb := fun u => (hb.put 1 (.int .i64 0)).put 1 (.int .i64 u)
        have HB := lay hb1
        have d1 : decide (n = 0) = false := by simp [h0]
        have d2 : decide (0 < n) = true := by simp [h1]
        have d3 : (n == 0) = false := by simp [h0]
        clear e1 e2 h hb1 h0
        go_enter Try.func96, Try.ntmps96
        go_wp2_with fail
        all_goals refine bodyPost_end (v := .tuple #[]) (by simp [results, Try.results96, go_sem]) rfl ⟨rfl, ?_, ((St.refl (one g) w).set rfl 1 _).set rfl 1 _⟩
        all_goals rw [HB.out, ha1.out]
        all_goals first | (rw [show min n 1073741824 = 1073741824 from by omega]; exact kb _) | (rw [show min n 1073741824 = n from by omega]; exact kb _)
      · have hb1 : bL M = true := by unfold bL; rw [decide_eq_true_iff]; omega
        have ha1 := lay (show aL M = 0 by unfold aL; rw [if_pos (by omega)])
        have kb := (hb.put 1 (.int .i64 0))
        have HB := lay hb1
        have d1 : decide (n = 0) = false := by simp [h0]
        have d2 : decide (0 < n) = false := by simp [h1]
        have d3 : (n == 0) = false := by simp [h0]
        clear e1 e2 h hb1 h0
        go_enter Try.func96, Try.ntmps96
        go_wp2_with fail
        refine bodyPost_end (v := .tuple #[]) (by simp [results, Try.results96, go_sem]) rfl ⟨rfl, by rw [HB.out, ha1.out]; exact kb, ((St.refl (one g) w).set rfl 1 _)⟩

set_option maxRecDepth 100000 in
set_option maxHeartbeats 2000000 in
theorem refSpend_ok (hb : Blk w g 199 (DC (bL L) (aL L) W)) (hI : In L) :
    Calls Try.prog 163 #[.pointer (some ⟨g, 0, none⟩)] w fun e w' => e = .returned (.int .i64 (eSp L)) ∧ Blk w' g 199 (DC (bL (spL L)) (aL (spL L)) (wSp L W)) ∧ St (one g) w w' := by
  have f0 := hb.frozen 0
  have f1 := hb.frozen 1
  have f2 := hb.frozen 2
  have lg := hb.lt
  have x0 := hb.cell 0
  have x1 := hb.cell 1
  have x2 := hb.cell 2
  simp only [List.getElem?_toArray, List.getElem?_cons_zero, List.getElem?_cons_succ] at x0 x1 x2
  by_cases h : L = 0
  · have e1 : bL L = false := by simp [bL, h]
    have e2 := lay (show eSp L = 110 by unfold eSp; rw [if_pos h])
    have e3 := lay (show spL L = L by unfold spL; rw [if_pos (by omega)])
    have e4 := lay (show wSp L W = W by unfold wSp; rw [if_pos h])
    rw [e1] at x0
    clear h e1
    go_enter Try.func163, Try.ntmps163
    go_wp2_with fail
    go_ret
    exact ⟨by rw [e2.out]; rfl, by rw [e3.out, e4.out]; exact hb, St.refl (one g) _⟩
  · have e1 : bL L = true := by simp [bL, h]
    have e2 := lay (show eSp L = 0 by unfold eSp; rw [if_neg h])
    have e4 := lay (show wSp L W = nx W by unfold wSp; rw [if_neg h])
    rw [e1] at x0 hb
    by_cases h1 : L = -1
    · subst h1
      have kb := hb.put 2 (.int .i64 (nx W))
      change w.cell? _ = some (.int .i64 0) at x1
      clear e1 h hI
      go_enter Try.func163, Try.ntmps163
      go_wp2_with fail
      go_ret
      exact ⟨by rw [e2.out]; rfl, by rw [e4.out]; exact kb, (St.refl (one g) w).set rfl 2 _⟩
    · have h2 : 0 < L ∧ L ≤ 1073741824 := by unfold In at hI; omega
      have e3 : aL L = L := by unfold aL; rw [if_neg (by omega)]
      have e5 := (show spL L = L - 1 by unfold spL; rw [if_neg (by omega)])
      obtain ⟨h3, h4⟩ := h2
      rw [e3] at x1 hb
      by_cases h5 : L = 1
      · subst h5
        have kb := ((hb.put 2 (.int .i64 (nx W))).put 1 (.int .i64 0)).put 0 (.bool false)
        clear e1 h hI e3 e5 h1
        go_enter Try.func163, Try.ntmps163
        go_wp2_with fail
        go_ret
        exact ⟨by rw [e2.out]; rfl, by rw [e4.out]; exact kb, (((St.refl (one g) w).set rfl 2 _).set rfl 1 _).set rfl 0 _⟩
      · have kb := ((hb.put 2 (.int .i64 (nx W))).put 1 (.int .i64 (L - 1)))
        have e6 := lay (show aL (spL L) = L - 1 by rw [e5]; unfold aL; rw [if_neg (by omega)])
        have e7 := lay (show bL (spL L) = true by rw [e5]; unfold bL; rw [decide_eq_true_iff]; omega)
        have d1 : decide (L - 1 = 0) = false := by rw [decide_eq_false_iff_not]; omega
        have d2 : (L - 1 == 0) = false := by rw [beq_eq_false_iff_ne]; omega
        clear e1 h hI e3 e5 h1 h5
        go_enter Try.func163, Try.ntmps163
        go_wp2_with fail
        go_ret
        exact ⟨by rw [e2.out]; rfl, by rw [e4.out, e6.out, e7.out]; exact kb, ((St.refl (one g) w).set rfl 2 _).set rfl 1 _⟩

end Go.Proofs.Ytoenkkbcpafanaa.powers
