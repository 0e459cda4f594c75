/- A guarded operation in a region that draws. -/
import Derived.Test.YtoenkkbcpafanaaMixE


namespace Go.Proofs.Ytoenkkbcpafanaa.mix
set_option linter.unusedVariables false
set_option linter.unusedSimpArgs false
open Go.RowKit
section
variable {P : Program} {ops : Array Oper} {md : Region.Mode} {S : World → Prop} {D : Nat → Bool} {Q : Exit → Act → World → Prop}
theorem D_opW {k : Nat} {o : Oper} {fuel : Nat} {listed : Array Bool} {a : Act} {w : World} (ho : ops[k]? = some o) (hr : (Region.ready md ops listed == [k]) = true) (hw : Region.wanted o (yielded ops a.tmps) = true)
    (h : ∀ K' : Act → World → Prop, Shut (∀ a' w', (D k = false → S w') → wpAnyD P md ops Q S D fuel (listed.setIfInBounds k true) a' w' → K' a' w') → Oper.wp P o a w K' Q) : wpAnyD P md ops Q S D (fuel + 1) listed a w :=
  D_one ho hr (fun K' hK => by rw [if_pos hw]; exact h K' hK)
end
end Go.Proofs.Ytoenkkbcpafanaa.mix
