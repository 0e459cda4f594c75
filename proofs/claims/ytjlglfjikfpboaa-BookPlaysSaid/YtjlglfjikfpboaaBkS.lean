/- The walk of BookCommutes. -/
import Derived.Test.YtjlglfjikfpboaaBkR


namespace Go.Proofs.Ytjlglfjikfpboaa.books
set_option linter.unusedVariables false
set_option linter.unusedSimpArgs false
open Go.RowKit Go.Shelf Go.Proofs.Ytjlglfjikfpboaa.base Go.Proofs.Ytjlglfjikfpboaa.quotas Go.Proofs.Ytjlglfjikfpboaa.vers Go.Proofs.Ytjlglfjikfpboaa.nodes Go.Proofs.Ytjlglfjikfpboaa.trees Go.Proofs.Ytjlglfjikfpboaa.texts

theorem boxesQOO (qa qb qc qd qe qf qh : Int) (x y : O) (w : World) : Blk (((w.alloc (.cells #[.int .i64 qa, .int .i64 qb, .int .i64 qc, .int .i64 qd, .int .i64 qe, .int .i64 qf, .int .i64 qh] 59)).alloc (.cells (oc x) 92)).alloc (.cells (oc y) 92)) w.heap.size 59 #[.int .i64 qa, .int .i64 qb, .int .i64 qc, .int .i64 qd, .int .i64 qe, .int .i64 qf, .int .i64 qh] ∧ Blk (((w.alloc (.cells #[.int .i64 qa, .int .i64 qb, .int .i64 qc, .int .i64 qd, .int .i64 qe, .int .i64 qf, .int .i64 qh] 59)).alloc (.cells (oc x) 92)).alloc (.cells (oc y) 92)) (w.heap.size + 1) 92 (oc x) ∧ Blk (((w.alloc (.cells #[.int .i64 qa, .int .i64 qb, .int .i64 qc, .int .i64 qd, .int .i64 qe, .int .i64 qf, .int .i64 qh] 59)).alloc (.cells (oc x) 92)).alloc (.cells (oc y) 92)) (w.heap.size + 2) 92 (oc y) ∧ Below w.heap.size w (((w.alloc (.cells #[.int .i64 qa, .int .i64 qb, .int .i64 qc, .int .i64 qd, .int .i64 qe, .int .i64 qf, .int .i64 qh] 59)).alloc (.cells (oc x) 92)).alloc (.cells (oc y) 92)) ∧ (((w.alloc (.cells #[.int .i64 qa, .int .i64 qb, .int .i64 qc, .int .i64 qd, .int .i64 qe, .int .i64 qf, .int .i64 qh] 59)).alloc (.cells (oc x) 92)).alloc (.cells (oc y) 92)).heap.size = w.heap.size + 3 := by
  have k := Blk.new (w.alloc (.cells #[.int .i64 qa, .int .i64 qb, .int .i64 qc, .int .i64 qd, .int .i64 qe, .int .i64 qf, .int .i64 qh] 59)) 92 (oc x)
  have k2 := Blk.new ((w.alloc (.cells #[.int .i64 qa, .int .i64 qb, .int .i64 qc, .int .i64 qd, .int .i64 qe, .int .i64 qf, .int .i64 qh] 59)).alloc (.cells (oc x) 92)) 92 (oc y)
  simp only [World.size_alloc] at k k2
  exact ⟨((Blk.new w _ _).alloc _).alloc _, k.alloc _, k2, (((Below.refl _ _).alloc (Nat.le_refl _) _).alloc (by simp) _).alloc (by simp; omega) _, by simp⟩
/-- a quota's box read -/
theorem qcells {w : World} {g : Nat} {qa qb qc qd qe qf qh : Int} (h : Blk w g 59 #[.int .i64 qa, .int .i64 qb, .int .i64 qc, .int .i64 qd, .int .i64 qe, .int .i64 qf, .int .i64 qh]) : w.cell? ⟨g, 0, none⟩ = some (.int .i64 qa) ∧ w.cell? ⟨g, 1, none⟩ = some (.int .i64 qb) ∧ w.cell? ⟨g, 2, none⟩ = some (.int .i64 qc) ∧ w.cell? ⟨g, 3, none⟩ = some (.int .i64 qd) ∧ w.cell? ⟨g, 4, none⟩ = some (.int .i64 qe) ∧ w.cell? ⟨g, 5, none⟩ = some (.int .i64 qf) ∧ w.cell? ⟨g, 6, none⟩ = some (.int .i64 qh) :=
  ⟨h.cell 0, h.cell 1, h.cell 2, h.cell 3, h.cell 4, h.cell 5, h.cell 6⟩
theorem ocells {w : World} {g : Nat} {x : O} (h : Blk w g 92 (oc x)) : w.cell? ⟨g, 0, none⟩ = some (.int .i64 x.k) ∧ w.cell? ⟨g, 1, none⟩ = some (.string x.s) ∧ w.cell? ⟨g, 2, none⟩ = some (.string x.v) ∧ w.cell? ⟨g, 3, none⟩ = some (.string x.t) :=
  ⟨h.cell 0, h.cell 1, h.cell 2, h.cell 3⟩

end Go.Proofs.Ytjlglfjikfpboaa.books
