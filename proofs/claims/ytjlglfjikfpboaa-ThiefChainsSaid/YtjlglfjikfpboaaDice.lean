/- What package dice's functions do to memory: copied, New, Taken, Next, Copy. -/
import Derived.Test.YtjlglfjikfpboaaRows
import Derived.Test.YtjlglfjikfpboaaTermA


namespace Go.Proofs.Ytjlglfjikfpboaa.dice
set_option linter.unusedVariables false
set_option linter.unusedSimpArgs false
open Go.RowKit Go.Proofs.Ytjlglfjikfpboaa.base

theorem own : ownKnob Try.prog.godebug = none := by kernel_rfl
theorem info64 : (Try.prog.info? 36).map (fun i => (i.zero, i.size, i.bytes)) = some (some (.int .u64 0), 1, 8) := by kernel_rfl
theorem size64 : (Try.prog.info? 36).map (·.size) = some 1 := by kernel_rfl

theorem splice_all {α : Type} (L cs : List α) (h : cs.length = L.length) : splice L 0 cs = cs := by
  simp [splice, h]
def draw (zs : List Int) (k : Nat) : Int := if k < zs.length then zs[k]?.getD 0 else 1099511627776 + k

theorem one_cells (zs : List Int) : ∀ u ∈ zs.map (Value.int .u64), u.oneCell' = true := by
  intro u hu
  obtain ⟨z, _, rfl⟩ := List.mem_map.1 hu
  rfl

end Go.Proofs.Ytjlglfjikfpboaa.dice
