/- The walk of BookAtomic. -/
import Derived.Test.YtjlglfjikfpboaaBkS


namespace Go.Proofs.Ytjlglfjikfpboaa.books
set_option linter.unusedVariables false
set_option linter.unusedSimpArgs false
open Go.RowKit Go.Shelf Go.Proofs.Ytjlglfjikfpboaa.base Go.Proofs.Ytjlglfjikfpboaa.quotas Go.Proofs.Ytjlglfjikfpboaa.vers Go.Proofs.Ytjlglfjikfpboaa.nodes Go.Proofs.Ytjlglfjikfpboaa.trees Go.Proofs.Ytjlglfjikfpboaa.texts

theorem addP_seven {a b c d e f h : Int} {s : ByteArray} {l : List V} {v t : ByteArray} {kp : Int} : (addP a b c d e f h s l v t kp).bad ≠ 7 := by
  unfold addP
  by_cases h1 : nbad a b c d e f h s l ≠ 0
  · rw [if_pos h1]
    show nbad a b c d e f h s l ≠ 7
    unfold nbad
    have hv : ∀ (l : List V) (p : Int), vbad c d p l ≠ 7 := by
      intro l
      induction l with
      | nil => intro p; simp [vbad]
      | cons x l ih =>
        intro p
        rw [vbad]
        split
        · decide
        · split
          · decide
          · exact ih _
    repeat' split
    all_goals first | exact hv _ _ | decide
  · rw [if_neg h1]
    split
    · show (5 : Int) ≠ 7; decide
    · split
      · show (2 : Int) ≠ 7; decide
      · show (0 : Int) ≠ 7; decide
theorem oneP_seven (q : Qt) (L : List PB) (o : O) : (oneP q L o).2 ≠ 7 := by
  have h0 : rightO q o ≠ 7 := by
    unfold rightO
    repeat' split
    all_goals decide
  rw [oneP_eq]
  split
  · exact h0
  · split
    · unfold takeP
      split
      · show (3 : Int) ≠ 7; decide
      · show (0 : Int) ≠ 7; decide
    · unfold renewP
      split
      · show (6 : Int) ≠ 7; decide
      · split
        · exact addP_seven
        · show (0 : Int) ≠ 7; decide
theorem rowP_seven (q : Qt) : ∀ (ops : List O) (L : List PB) (i : Nat), (rowP q L ops i).2.1 ≠ 7
  | [], L, i => by show (0 : Int) ≠ 7; decide
  | o :: r, L, i => by
    rw [rowP]
    split
    · exact oneP_seven q L o
    · exact rowP_seven q r _ _
theorem rowP_at (q : Qt) : ∀ (ops : List O) (L : List PB) (i : Nat), ((rowP q L ops i).2.1 ≠ 0 → (i : Int) ≤ (rowP q L ops i).2.2 ∧ (rowP q L ops i).2.2 < (i : Int) + (ops.length : Int)) ∧ ((rowP q L ops i).2.1 = 0 → (rowP q L ops i).2.2 = 0)
  | [], L, i => ⟨fun h => absurd rfl h, fun _ => rfl⟩
  | o :: r, L, i => by
    rw [rowP, List.length_cons]
    split
    · rename_i h
      refine ⟨fun _ => ⟨Int.le_refl _, ?_⟩, fun h2 => absurd h2 h⟩
      show (i : Int) < _
      omega
    · obtain ⟨h1, h2⟩ := rowP_at q r (oneP q L o).1 (i + 1)
      refine ⟨fun h => ?_, h2⟩
      have := h1 h
      omega
theorem playP_bad {q : Qt} {b : Bk} {ops : List O} (h : (behindP q b.L ops).2.1 ≠ 0) : playP q b ops = (b, (behindP q b.L ops).2) := by unfold playP; rw [if_pos h]
theorem playP_good {q : Qt} {b : Bk} {ops : List O} (h : (behindP q b.L ops).2.1 = 0) : playP q b ops = (⟨(behindP q b.L ops).1, wereP b.P ops⟩, 0, 0) := by unfold playP; rw [if_neg (fun h2 => h2 h)]
theorem behindP_batch {q : Qt} {L : List PB} {ops : List O} (h : ops.length = 0 ∨ q.f < (ops.length : Int)) : behindP q L ops = (L, 7, -1) := by unfold behindP; rw [if_pos h]
theorem behindP_row {q : Qt} {L : List PB} {ops : List O} (h : ¬ (ops.length = 0 ∨ q.f < (ops.length : Int))) : behindP q L ops = rowP q L ops 0 := by unfold behindP; rw [if_neg h]
theorem playP_res (q : Qt) (b : Bk) (ops : List O) : (playP q b ops).2 = (behindP q b.L ops).2 := by
  by_cases h : (behindP q b.L ops).2.1 = 0
  · rw [playP_good h]
    by_cases hc : ops.length = 0 ∨ q.f < (ops.length : Int)
    · rw [behindP_batch hc] at h; cases h
    · rw [behindP_row hc] at h ⊢
      exact Prod.ext h.symm ((rowP_at q ops b.L 0).2 h).symm
  · rw [playP_bad h]
theorem wereP_app (P : List (List UInt8)) (l m : List O) : wereP P (l ++ m) = wereP (wereP P l) m := by simp [wereP, List.foldl_append]
theorem wereP_take {P : List (List UInt8)} {ops : List O} {j : Nat} (hj : j < ops.length) : wereP P (ops.take (j + 1)) = wereP (wereP P (ops.take j)) [ops[j]] := by
  rw [List.take_succ_eq_append_getElem hj, wereP_app]
theorem wereP_sorted {P : List (List UInt8)} (h : P.Pairwise (· < ·)) (l : List O) : (wereP P l).Pairwise (· < ·) := wereP_up l P h
/-- secrets in rows of their own, in blocks from B on, below C -/
abbrev OwnBC (w : World) (B C : Nat) (le : List E) (v : Value) : Prop := OwnEF w (fun g => B ≤ g ∧ g < C) le v
theorem bc_keep {S : Nat → Prop} {B C : Nat} {w w' : World} {le : List E} {v : Value} (h : OwnBC w B C le v) (hC : C ≤ w.heap.size) (hk : Keep S w w') (hS : ∀ g, S g → g < B ∨ C ≤ g) : OwnBC w' B C le v :=
  h.agree (hk.agree fun g hg => ⟨by omega, fun h => by have := hS g h; omega⟩)
theorem bc_below {B C : Nat} {w w' : World} {le : List E} {v : Value} (h : OwnBC w B C le v) (hC : C ≤ w.heap.size) (hb : Below w.heap.size w w') : OwnBC w' B C le v :=
  h.agree (Agree.of_below hb fun g hg => by omega)
/-- where the loop stands -/
def AtHead (W : World) (q : Qt) (P1 m1 P2 m2 : Nat) (b bf : Bk) (ops : List O) (B C : Nat) (le : List E) (v : Value) (i : Value) (wr : World) : Prop :=
  ∃ (j : Nat) (M : List PB), j ≤ ops.length ∧ i = .int .i64 (j : Int) ∧ Two W q P2 m2 ⟨M, wereP b.P (ops.take j)⟩ P1 m1 bf wr ∧ (OwnBC wr B C le v ∧ C ≤ wr.heap.size) ∧ BInv q (40 + j) ⟨M, wereP b.P (ops.take j)⟩ ∧ Hid (rowP q b.L ops 0 = rowP q M (ops.drop j) j)

theorem boxesQ (q : Qt) (w : World) : Blk (w.alloc (.cells #[.int .i64 q.a, .int .i64 q.b, .int .i64 q.c, .int .i64 q.d, .int .i64 q.e, .int .i64 q.f, .int .i64 q.h] 59)) w.heap.size 59 #[.int .i64 q.a, .int .i64 q.b, .int .i64 q.c, .int .i64 q.d, .int .i64 q.e, .int .i64 q.f, .int .i64 q.h] ∧ Below w.heap.size w (w.alloc (.cells #[.int .i64 q.a, .int .i64 q.b, .int .i64 q.c, .int .i64 q.d, .int .i64 q.e, .int .i64 q.f, .int .i64 q.h] 59)) ∧ (w.alloc (.cells #[.int .i64 q.a, .int .i64 q.b, .int .i64 q.c, .int .i64 q.d, .int .i64 q.e, .int .i64 q.f, .int .i64 q.h] 59)).heap.size = w.heap.size + 1 := by
  exact ⟨(Blk.new w _ _), ((Below.refl _ _).alloc (by simp <;> omega) _), by simp⟩

end Go.Proofs.Ytjlglfjikfpboaa.books
