/- The walk of BookQuota. -/
import Derived.Test.YtjlglfjikfpboaaBkV


namespace Go.Proofs.Ytjlglfjikfpboaa.books
set_option linter.unusedVariables false
set_option linter.unusedSimpArgs false
open Go.RowKit Go.Shelf Go.Proofs.Ytjlglfjikfpboaa.base Go.Proofs.Ytjlglfjikfpboaa.quotas Go.Proofs.Ytjlglfjikfpboaa.vers Go.Proofs.Ytjlglfjikfpboaa.nodes Go.Proofs.Ytjlglfjikfpboaa.trees Go.Proofs.Ytjlglfjikfpboaa.texts

theorem new_bad {q : Qt} (hk : q.ok) {L : List PB} (hI : Inv q L) {o : O} (h0 : rightO q o = 0) (h3 : o.k ≠ 3) : (newP q L o).bad = 0 ∨ (newP q L o).bad = 2 := by
  unfold rightO at h0
  by_cases g1 : o.k ≠ 1 ∧ o.k ≠ 2 ∧ o.k ≠ 3
  · rw [if_pos g1] at h0; cases h0
  rw [if_neg g1] at h0
  by_cases g2 : o.s.size = 0
  · rw [if_pos g2] at h0; cases h0
  rw [if_neg g2] at h0
  by_cases g3 : q.b < (o.s.size : Int)
  · rw [if_pos g3] at h0; cases h0
  rw [if_neg g3] at h0
  by_cases g4 : o.k ≠ 3 ∧ (q.c < (o.v.size : Int) ∨ q.d < (o.t.size : Int))
  · rw [if_pos g4] at h0; cases h0
  have g5 : ¬ (q.c < (o.v.size : Int) ∨ q.d < (o.t.size : Int)) := fun h => g4 ⟨h3, h⟩
  have hz : nbad q.a q.b q.c q.d q.e q.f q.h o.s ((lk L o.s).getD []) = 0 := by
    cases hl : lk L o.s with
    | some l => exact (hI.fine _ (lk_some hl)).1
    | none =>
      rw [nbad_yes hk, if_neg g2, if_neg g3, if_neg (by have := hk.2.2.2.2.1.1; simp; omega)]
      rfl
  unfold newP addP
  rw [if_neg (fun h => h hz), if_neg g5]
  split
  · exact .inr rfl
  · exact .inl rfl
theorem oneP_val3 {q : Qt} {L : List PB} {o : O} (h0 : rightO q o = 0) (h3 : o.k = 3) : (oneP q L o).2 = if (lk L o.s).isSome then 0 else 3 := by
  rw [oneP_eq, if_neg (fun h => h h0), if_pos h3]
  unfold takeP
  cases lk L o.s <;> rfl
theorem oneP_full {q : Qt} {L : List PB} {o : O} (h0 : rightO q o = 0) (h3 : o.k ≠ 3) (hl : lk L o.s = none) (ha : (L.length : Int) = q.a) : (oneP q L o).2 = 6 := by
  rw [oneP_eq, if_neg (fun h => h h0), if_neg h3]
  unfold renewP
  rw [if_pos ⟨hl, ha⟩]
theorem oneP_put {q : Qt} (hk : q.ok) {L : List PB} (hI : Inv q L) {o : O} (h0 : rightO q o = 0) (h3 : o.k ≠ 3) (hl : ¬ (lk L o.s = none ∧ (L.length : Int) = q.a)) : (oneP q L o).2 = 0 ∨ (oneP q L o).2 = 2 := by
  have hb := new_bad hk hI h0 h3
  rw [oneP_eq, if_neg (fun h => h h0), if_neg h3]
  unfold renewP
  rw [if_neg hl]
  split
  · exact hb
  · exact .inl rfl
theorem oneP_right {q : Qt} {L : List PB} {o : O} {n : Int} (h0 : rightO q o = n) (hn : n ≠ 0) : (oneP q L o).2 = n := by
  rw [oneP_eq, if_pos (by rw [h0]; exact hn), h0]
theorem sle_no {x y : ByteArray} (h : bn y < bn x) : (Op.bytesLess x.toList y.toList || x.toList == y.toList) = false := by
  rw [Go.Proofs.bytesLess_eq, Lib.toList_data, Lib.toList_data]
  have h1 : ¬ x.data.toList < y.data.toList := fun h2 => bn_irrefl _ (List.lt_trans h h2)
  have h2 : (x.data.toList == y.data.toList) = false := by
    rw [beq_eq_false_iff_ne]
    intro e
    rw [show bn y = bn x from e.symm] at h
    exact bn_irrefl _ h
  rw [decide_eq_false h1, h2]; rfl

theorem boxesQO (q : Qt) (o : O) (w : World) : Blk ((w.alloc (.cells #[.int .i64 q.a, .int .i64 q.b, .int .i64 q.c, .int .i64 q.d, .int .i64 q.e, .int .i64 q.f, .int .i64 q.h] 59)).alloc (.cells (oc o) 92)) w.heap.size 59 #[.int .i64 q.a, .int .i64 q.b, .int .i64 q.c, .int .i64 q.d, .int .i64 q.e, .int .i64 q.f, .int .i64 q.h] ∧ Blk ((w.alloc (.cells #[.int .i64 q.a, .int .i64 q.b, .int .i64 q.c, .int .i64 q.d, .int .i64 q.e, .int .i64 q.f, .int .i64 q.h] 59)).alloc (.cells (oc o) 92)) (w.heap.size + 1) 92 (oc o) ∧ Below w.heap.size w ((w.alloc (.cells #[.int .i64 q.a, .int .i64 q.b, .int .i64 q.c, .int .i64 q.d, .int .i64 q.e, .int .i64 q.f, .int .i64 q.h] 59)).alloc (.cells (oc o) 92)) ∧ ((w.alloc (.cells #[.int .i64 q.a, .int .i64 q.b, .int .i64 q.c, .int .i64 q.d, .int .i64 q.e, .int .i64 q.f, .int .i64 q.h] 59)).alloc (.cells (oc o) 92)).heap.size = w.heap.size + 2 := by
  have k1 := Blk.new (w.alloc (.cells #[.int .i64 q.a, .int .i64 q.b, .int .i64 q.c, .int .i64 q.d, .int .i64 q.e, .int .i64 q.f, .int .i64 q.h] 59)) 92 (oc o)
  simp only [World.size_alloc] at k1
  exact ⟨((Blk.new w _ _).alloc _), k1, (((Below.refl _ _).alloc (by simp <;> omega) _).alloc (by simp <;> omega) _), by simp⟩

/-- where the loop stands -/
def QtHead (W : World) (q : Qt) (bp mp : Nat) (B : Nat) (b : Bk) (le : List E) (v u i : Value) (wr : World) : Prop :=
  ∃ (j : Nat) (last : ByteArray), j ≤ le.length ∧ i = .int .i64 (j : Int) ∧ u = .string last ∧ MdHead W q bp mp b wr ∧ OwnEF wr (fun g => B ≤ g ∧ g < wr.heap.size) le v ∧ Hid (∀ k (h : k < le.length), j ≤ k → bn last < bn le[k].s)

end Go.Proofs.Ytjlglfjikfpboaa.books
