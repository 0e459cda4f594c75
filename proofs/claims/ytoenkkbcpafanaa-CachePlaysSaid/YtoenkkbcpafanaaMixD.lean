/- A region that draws its order: two operations may come up. -/
import Derived.Test.YtoenkkbcpafanaaMixC


namespace Go.Proofs.Ytoenkkbcpafanaa.mix
set_option linter.unusedVariables false
set_option linter.unusedSimpArgs false
open Go.RowKit Go.Proofs.Ytoenkkbcpafanaa.base
section
variable {P : Program} {ops : Array Oper} {md : Region.Mode} {S : World → Prop} {D : Nat → Bool} {Q : Exit → Act → World → Prop}
/-- number k or number j comes up -/
theorem D_two {k j : Nat} {o o' : Oper} {fuel : Nat} {listed : Array Bool} {a : Act} {w : World} (ho : ops[k]? = some o) (hg : o.guard = none) (ho' : ops[j]? = some o') (hg' : o'.guard = none) (hr : (Region.ready md ops listed == [k, j]) = true)
    (h : ∀ K' : Act → World → Prop, Shut (∀ a' w', (D k = false → S w') → wpAnyD P md ops Q S D fuel (listed.setIfInBounds k true) a' w' → K' a' w') → Oper.wp P o a w K' Q)
    (h' : ∀ K' : Act → World → Prop, Shut (∀ a' w', (D j = false → S w') → wpAnyD P md ops Q S D fuel (listed.setIfInBounds j true) a' w' → K' a' w') → Oper.wp P o' a w K' Q) : wpAnyD P md ops Q S D (fuel + 1) listed a w := by
  have hr' : Region.ready md ops listed = [k, j] := beq_iff_eq.1 hr
  refine ⟨fun e => (by rw [hr'] at e; cases e), fun i hi => ?_⟩
  rw [hr'] at hi
  rcases List.mem_cons.1 hi with rfl | hi
  · exact wpOp_step ho (fun K' hK => by rw [if_pos (by simp [Region.wanted, hg])]; exact h K' (fun a w hS hW => hK a w ⟨hS, hW⟩))
  · rw [List.mem_singleton] at hi
    subst hi
    exact wpOp_step ho' (fun K' hK => by rw [if_pos (by simp [Region.wanted, hg'])]; exact h' K' (fun a w hS hW => hK a w ⟨hS, hW⟩))
end
end Go.Proofs.Ytoenkkbcpafanaa.mix
