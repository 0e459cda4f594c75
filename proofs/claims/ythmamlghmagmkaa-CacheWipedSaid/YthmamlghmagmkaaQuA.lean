/- Quotas: a quota in a box of the call's own; whether it may be, the program's and the document's. -/
import Derived.Test.YthmamlghmagmkaaBase
import Derived.Test.YthmamlghmagmkaaProg
import Derived.Below
import Derived.IntWalk


namespace Go.Proofs.Ythmamlghmagmkaa.quotas
set_option linter.unusedVariables false
set_option linter.unusedSimpArgs false
open Go.RowKit Go.Proofs.Ythmamlghmagmkaa.base

/-- behind the call's beginning: block g holds this quota, all that was there is as it was -/
def In7 (w0 : World) (g : Nat) (a b c d e f h : Int) (w : World) : Prop :=
  (w.cell? ⟨g, 0, none⟩ = some (.int .i64 a) ∧ w.cell? ⟨g, 1, none⟩ = some (.int .i64 b) ∧ w.cell? ⟨g, 2, none⟩ = some (.int .i64 c) ∧ w.cell? ⟨g, 3, none⟩ = some (.int .i64 d) ∧
    w.cell? ⟨g, 4, none⟩ = some (.int .i64 e) ∧ w.cell? ⟨g, 5, none⟩ = some (.int .i64 f) ∧ w.cell? ⟨g, 6, none⟩ = some (.int .i64 h)) ∧ w0.heap.size ≤ g ∧ g < w.heap.size ∧ Below w0.heap.size w0 w

section
variable {w0 w w' : World} {g : Nat} {a b c d e f h : Int}
theorem In7.next (h1 : In7 w0 g a b c d e f h w) (hb : Below w.heap.size w w') : In7 w0 g a b c d e f h w' := by
  obtain ⟨⟨c0, c1, c2, c3, c4, c5, c6⟩, h2, h3, h4⟩ := h1
  have hs := hb.size
  refine ⟨⟨?_, ?_, ?_, ?_, ?_, ?_, ?_⟩, h2, by omega, h4.trans (hb.mono h4.size)⟩ <;> (rw [hb.cell (by simpa using h3)]; assumption)
theorem In7.drew (h1 : In7 w0 g a b c d e f h w) : In7 w0 g a b c d e f h w.drew := ⟨h1.1, h1.2.1, h1.2.2.1, h1.2.2.2.drew⟩
theorem In7.alloc (h1 : In7 w0 g a b c d e f h w) (o : Obj) : In7 w0 g a b c d e f h (w.alloc o) := h1.next ((Below.refl _ _).alloc (Nat.le_refl _) _)
end

/-- a quota that may be -/
def ok (a b c d e f h : Int) : Prop := (1 ≤ a ∧ a ≤ 64) ∧ (1 ≤ b ∧ b ≤ 16) ∧ (0 ≤ c ∧ c ≤ 32) ∧ (0 ≤ d ∧ d ≤ 16) ∧ (1 ≤ e ∧ e ≤ 4) ∧ (1 ≤ f ∧ f ≤ 8) ∧ (0 ≤ h ∧ h ≤ 32)

theorem ret_of {v : Value} {w w' : World} {B : Nat} (hb : Below B w w') : (Ending.returned v = .returned v) ∧ Below B w w' := ⟨rfl, hb⟩

end Go.Proofs.Ythmamlghmagmkaa.quotas
