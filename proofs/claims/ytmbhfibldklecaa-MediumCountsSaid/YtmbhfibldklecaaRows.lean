/-
  No cell of these rows narrows 'for every input' (looked for: loops, veiled, ifaces, maps, wideKeys, modest, calm, conditions, laid).
  DERIVED. THE GIVEN ROWS OF THIS SEAT. 8 by the template 'for every input the law returns true; each argument reads behind the call as it read before'; 0 by the template 'total and deterministic' (their statements: YtmbhfibldklecaaTotals.lean).
  GIVEN WITH THE SEED: the statements are not yours to turn. If you find one false, say at which input.
  Laid BY PROGRAM, IN A SANDBOX (cutbox-rows.mjs): the forced cells as the released guide's own fill.sh prints them over the translation dffbc2aed130ab95… (all of the seat's roots in one cut). By AI agents, Wed Nov 11 2026. No macro, syntax, notation, axiom, sorry.
-/
import Derived.Test.YtmbhfibldklecaaChecked
import GoSem.Claim
import GoSem.ClaimJoined
import GoSem.ClaimMapViews
import Derived.JoinedTies
import Derived.KernelRfl
namespace Go.Proofs.Ytmbhfibldklecaa
/- THE CELL 'sum', in the pinned program and in every row, IS THE sha256 OF THE DUMP (.gsa) THAT YtmbhfibldklecaaProg.lean LOADS. Nothing in Lean hashes anything: it is a label: what it is worth is what the hold of that sum in a sandbox is worth. -/
noncomputable def Try.pinned : Pinned := { name := "ytmbhfibldklecaa", sum := "dffbc2aed130ab959f694a3973cab66cfe80682c321f19ba50c9aaa75f419aa8", checked := Try.checked }
namespace Rows
def none {H : Type} : Left H := { results := [], args := [] }

/-- 'lethelaw07.TreeMap': WHATEVER THE INPUT: true; the input reads as it did. -/
def treeMapSpec : ChangeSpec := { name := "treeMap", fn := fun _ => fun
  | [d] => { results := [.lit (.bool true)], args := [d] }
  | _ => none }
def treeMapRow : OpenClaim := { program := "ytmbhfibldklecaa", sum := "dffbc2aed130ab959f694a3973cab66cfe80682c321f19ba50c9aaa75f419aa8", func := "lethe/lethelaw07.TreeMap", spec := "treeMap", inPlace := ["internal/bytealg.abigen_runtime_cmpstring", "slices.overlaps[lethe/api.Entry]"], unfollowed := true, recurses := true, apart := false }
def TreeMapSaid : Prop := treeMapRow.holds Try.pinned (OpenSpec.ofChange treeMapSpec)

/-- ITS FALSE NEIGHBOUR: 'it returns false'. Refute it at one input. -/
def treeMapWrong : ChangeSpec := { name := "treeMap", fn := fun _ => fun
  | [d] => { results := [.lit (.bool false)], args := [d] }
  | _ => none }
def TreeMapWrongFalsely : Prop := treeMapRow.holds Try.pinned (OpenSpec.ofChange treeMapWrong)

/-- 'lethelaw07.TreeShapes': WHATEVER THE INPUT: true; the input reads as it did. -/
def treeShapesSpec : ChangeSpec := { name := "treeShapes", fn := fun _ => fun
  | [d] => { results := [.lit (.bool true)], args := [d] }
  | _ => none }
def treeShapesRow : OpenClaim := { program := "ytmbhfibldklecaa", sum := "dffbc2aed130ab959f694a3973cab66cfe80682c321f19ba50c9aaa75f419aa8", func := "lethe/lethelaw07.TreeShapes", spec := "treeShapes", inPlace := ["internal/bytealg.abigen_runtime_cmpstring", "slices.overlaps[lethe/api.Entry]"], unfollowed := true, recurses := true, apart := false }
def TreeShapesSaid : Prop := treeShapesRow.holds Try.pinned (OpenSpec.ofChange treeShapesSpec)

/-- ITS FALSE NEIGHBOUR: 'it returns false'. Refute it at one input. -/
def treeShapesWrong : ChangeSpec := { name := "treeShapes", fn := fun _ => fun
  | [d] => { results := [.lit (.bool false)], args := [d] }
  | _ => none }
def TreeShapesWrongFalsely : Prop := treeShapesRow.holds Try.pinned (OpenSpec.ofChange treeShapesWrong)

/-- 'lethelaw07.TreeMoves': WHATEVER THE INPUT: true; the input reads as it did. -/
def treeMovesSpec : ChangeSpec := { name := "treeMoves", fn := fun _ => fun
  | [d1, d2] => { results := [.lit (.bool true)], args := [d1, d2] }
  | _ => none }
def treeMovesRow : OpenClaim := { program := "ytmbhfibldklecaa", sum := "dffbc2aed130ab959f694a3973cab66cfe80682c321f19ba50c9aaa75f419aa8", func := "lethe/lethelaw07.TreeMoves", spec := "treeMoves", inPlace := ["internal/bytealg.abigen_runtime_cmpstring", "slices.overlaps[lethe/api.Entry]"], unfollowed := true, recurses := true, apart := false }
def TreeMovesSaid : Prop := treeMovesRow.holds Try.pinned (OpenSpec.ofChange treeMovesSpec)

/-- ITS FALSE NEIGHBOUR: 'it returns false'. Refute it at one input. -/
def treeMovesWrong : ChangeSpec := { name := "treeMoves", fn := fun _ => fun
  | [d1, d2] => { results := [.lit (.bool false)], args := [d1, d2] }
  | _ => none }
def TreeMovesWrongFalsely : Prop := treeMovesRow.holds Try.pinned (OpenSpec.ofChange treeMovesWrong)

/-- 'lethelaw07.TreeFresh': WHATEVER THE INPUT: true; the input reads as it did. -/
def treeFreshSpec : ChangeSpec := { name := "treeFresh", fn := fun _ => fun
  | [d] => { results := [.lit (.bool true)], args := [d] }
  | _ => none }
def treeFreshRow : OpenClaim := { program := "ytmbhfibldklecaa", sum := "dffbc2aed130ab959f694a3973cab66cfe80682c321f19ba50c9aaa75f419aa8", func := "lethe/lethelaw07.TreeFresh", spec := "treeFresh", inPlace := ["internal/bytealg.abigen_runtime_cmpstring", "slices.overlaps[lethe/api.Entry]"], unfollowed := true, recurses := true, apart := false }
def TreeFreshSaid : Prop := treeFreshRow.holds Try.pinned (OpenSpec.ofChange treeFreshSpec)

/-- ITS FALSE NEIGHBOUR: 'it returns false'. Refute it at one input. -/
def treeFreshWrong : ChangeSpec := { name := "treeFresh", fn := fun _ => fun
  | [d] => { results := [.lit (.bool false)], args := [d] }
  | _ => none }
def TreeFreshWrongFalsely : Prop := treeFreshRow.holds Try.pinned (OpenSpec.ofChange treeFreshWrong)

/-- 'lethelaw07.TreeUndo': WHATEVER THE INPUT: true; the input reads as it did. -/
def treeUndoSpec : ChangeSpec := { name := "treeUndo", fn := fun _ => fun
  | [d1, d2] => { results := [.lit (.bool true)], args := [d1, d2] }
  | _ => none }
def treeUndoRow : OpenClaim := { program := "ytmbhfibldklecaa", sum := "dffbc2aed130ab959f694a3973cab66cfe80682c321f19ba50c9aaa75f419aa8", func := "lethe/lethelaw07.TreeUndo", spec := "treeUndo", inPlace := ["internal/bytealg.abigen_runtime_cmpstring", "slices.overlaps[lethe/api.Entry]"], unfollowed := true, recurses := true, apart := false }
def TreeUndoSaid : Prop := treeUndoRow.holds Try.pinned (OpenSpec.ofChange treeUndoSpec)

/-- ITS FALSE NEIGHBOUR: 'it returns false'. Refute it at one input. -/
def treeUndoWrong : ChangeSpec := { name := "treeUndo", fn := fun _ => fun
  | [d1, d2] => { results := [.lit (.bool false)], args := [d1, d2] }
  | _ => none }
def TreeUndoWrongFalsely : Prop := treeUndoRow.holds Try.pinned (OpenSpec.ofChange treeUndoWrong)

/-- 'lethelaw12.MediumReplays': WHATEVER THE INPUT: true; the input reads as it did. -/
def mediumReplaysSpec : ChangeSpec := { name := "mediumReplays", fn := fun _ => fun
  | [d1, d2, d3] => { results := [.lit (.bool true)], args := [d1, d2, d3] }
  | _ => none }
def mediumReplaysRow : OpenClaim := { program := "ytmbhfibldklecaa", sum := "dffbc2aed130ab959f694a3973cab66cfe80682c321f19ba50c9aaa75f419aa8", func := "lethe/lethelaw12.MediumReplays", spec := "mediumReplays", unfollowed := true, recurses := true, apart := false }
def MediumReplaysSaid : Prop := mediumReplaysRow.holds Try.pinned (OpenSpec.ofChange mediumReplaysSpec)

/-- ITS FALSE NEIGHBOUR: 'it returns false'. Refute it at one input. -/
def mediumReplaysWrong : ChangeSpec := { name := "mediumReplays", fn := fun _ => fun
  | [d1, d2, d3] => { results := [.lit (.bool false)], args := [d1, d2, d3] }
  | _ => none }
def MediumReplaysWrongFalsely : Prop := mediumReplaysRow.holds Try.pinned (OpenSpec.ofChange mediumReplaysWrong)

/-- 'lethelaw12.MediumCuts': WHATEVER THE INPUT: true; the input reads as it did. -/
def mediumCutsSpec : ChangeSpec := { name := "mediumCuts", fn := fun _ => fun
  | [d] => { results := [.lit (.bool true)], args := [d] }
  | _ => none }
def mediumCutsRow : OpenClaim := { program := "ytmbhfibldklecaa", sum := "dffbc2aed130ab959f694a3973cab66cfe80682c321f19ba50c9aaa75f419aa8", func := "lethe/lethelaw12.MediumCuts", spec := "mediumCuts", apart := false }
def MediumCutsSaid : Prop := mediumCutsRow.holds Try.pinned (OpenSpec.ofChange mediumCutsSpec)

/-- ITS FALSE NEIGHBOUR: 'it returns false'. Refute it at one input. -/
def mediumCutsWrong : ChangeSpec := { name := "mediumCuts", fn := fun _ => fun
  | [d] => { results := [.lit (.bool false)], args := [d] }
  | _ => none }
def MediumCutsWrongFalsely : Prop := mediumCutsRow.holds Try.pinned (OpenSpec.ofChange mediumCutsWrong)

/-- 'lethelaw12.MediumCounts': WHATEVER THE INPUT: true; the input reads as it did. -/
def mediumCountsSpec : ChangeSpec := { name := "mediumCounts", fn := fun _ => fun
  | [d1, d2, d3] => { results := [.lit (.bool true)], args := [d1, d2, d3] }
  | _ => none }
def mediumCountsRow : OpenClaim := { program := "ytmbhfibldklecaa", sum := "dffbc2aed130ab959f694a3973cab66cfe80682c321f19ba50c9aaa75f419aa8", func := "lethe/lethelaw12.MediumCounts", spec := "mediumCounts", unfollowed := true, recurses := true, apart := false }
def MediumCountsSaid : Prop := mediumCountsRow.holds Try.pinned (OpenSpec.ofChange mediumCountsSpec)

/-- ITS FALSE NEIGHBOUR: 'it returns false'. Refute it at one input. -/
def mediumCountsWrong : ChangeSpec := { name := "mediumCounts", fn := fun _ => fun
  | [d1, d2, d3] => { results := [.lit (.bool false)], args := [d1, d2, d3] }
  | _ => none }
def MediumCountsWrongFalsely : Prop := mediumCountsRow.holds Try.pinned (OpenSpec.ofChange mediumCountsWrong)

/- THE SECOND FORM. 'bulk': how many values and letters a reading holds, each counted each time it is reached (what is shared counts as often as it is met; a slice's spare places count too). A statement '..UptoSaid' is the law's where the arguments, and the package variables that the reading takes, are together of bulk at most 1048576: NARROWER than '..Said'. Prove '..Said' where nothing that the law and all that it calls make is longer than what came in: it says more and counts as full. Else prove '..UptoSaid'. A law counts once. -/
mutual
def uptoBulk {H : Type} : DataW H → Nat
  | .lit (.string bytes) => bytes.length + 1
  | .lit _ => 1
  | .nil => 1
  | .ptr d => uptoBulk d + 1
  | .slice elems spare => uptoBulkAll elems + uptoBulkAll spare + 1
  | .agg parts => uptoBulkAll parts + 1
  | .iface _ d => uptoBulk d + 1
  | .map entries => uptoBulkEntries entries + 1
  | .held _ => 1
def uptoBulkAll {H : Type} : List (DataW H) → Nat
  | [] => 0
  | d :: r => uptoBulk d + uptoBulkAll r
def uptoBulkEntries {H : Type} : List (Lit × DataW H) → Nat
  | [] => 0
  | x :: r => uptoBulkEntry x + uptoBulkEntries r
def uptoBulkEntry {H : Type} : Lit × DataW H → Nat
  | (.string bytes, d) => bytes.length + uptoBulk d + 1
  | (_, d) => uptoBulk d + 1
 end
def uptoSmall : (H : Type) → List (DataW H) → Bool := fun _ ds => decide (uptoBulkAll ds ≤ 1048576)
def OpenSpec.upto (s : _root_.Go.ChangeSpec) : _root_.Go.OpenSpec := { _root_.Go.OpenSpec.ofChange s with cond := some uptoSmall }

/-- 'lethelaw07.TreeMap', WHERE WHAT IT READS IS OF BULK AT MOST 1048576: true; the input reads as it did. -/
def treeMapUptoRow : OpenClaim := { program := "ytmbhfibldklecaa", sum := "dffbc2aed130ab959f694a3973cab66cfe80682c321f19ba50c9aaa75f419aa8", func := "lethe/lethelaw07.TreeMap", spec := "treeMap", inPlace := ["internal/bytealg.abigen_runtime_cmpstring", "slices.overlaps[lethe/api.Entry]"], unfollowed := true, recurses := true, apart := false, narrowed := true }
def TreeMapUptoSaid : Prop := treeMapUptoRow.holds Try.pinned (OpenSpec.upto treeMapSpec)

/-- 'lethelaw07.TreeShapes', WHERE WHAT IT READS IS OF BULK AT MOST 1048576: true; the input reads as it did. -/
def treeShapesUptoRow : OpenClaim := { program := "ytmbhfibldklecaa", sum := "dffbc2aed130ab959f694a3973cab66cfe80682c321f19ba50c9aaa75f419aa8", func := "lethe/lethelaw07.TreeShapes", spec := "treeShapes", inPlace := ["internal/bytealg.abigen_runtime_cmpstring", "slices.overlaps[lethe/api.Entry]"], unfollowed := true, recurses := true, apart := false, narrowed := true }
def TreeShapesUptoSaid : Prop := treeShapesUptoRow.holds Try.pinned (OpenSpec.upto treeShapesSpec)

/-- 'lethelaw07.TreeMoves', WHERE WHAT IT READS IS OF BULK AT MOST 1048576: true; the input reads as it did. -/
def treeMovesUptoRow : OpenClaim := { program := "ytmbhfibldklecaa", sum := "dffbc2aed130ab959f694a3973cab66cfe80682c321f19ba50c9aaa75f419aa8", func := "lethe/lethelaw07.TreeMoves", spec := "treeMoves", inPlace := ["internal/bytealg.abigen_runtime_cmpstring", "slices.overlaps[lethe/api.Entry]"], unfollowed := true, recurses := true, apart := false, narrowed := true }
def TreeMovesUptoSaid : Prop := treeMovesUptoRow.holds Try.pinned (OpenSpec.upto treeMovesSpec)

/-- 'lethelaw07.TreeFresh', WHERE WHAT IT READS IS OF BULK AT MOST 1048576: true; the input reads as it did. -/
def treeFreshUptoRow : OpenClaim := { program := "ytmbhfibldklecaa", sum := "dffbc2aed130ab959f694a3973cab66cfe80682c321f19ba50c9aaa75f419aa8", func := "lethe/lethelaw07.TreeFresh", spec := "treeFresh", inPlace := ["internal/bytealg.abigen_runtime_cmpstring", "slices.overlaps[lethe/api.Entry]"], unfollowed := true, recurses := true, apart := false, narrowed := true }
def TreeFreshUptoSaid : Prop := treeFreshUptoRow.holds Try.pinned (OpenSpec.upto treeFreshSpec)

/-- 'lethelaw07.TreeUndo', WHERE WHAT IT READS IS OF BULK AT MOST 1048576: true; the input reads as it did. -/
def treeUndoUptoRow : OpenClaim := { program := "ytmbhfibldklecaa", sum := "dffbc2aed130ab959f694a3973cab66cfe80682c321f19ba50c9aaa75f419aa8", func := "lethe/lethelaw07.TreeUndo", spec := "treeUndo", inPlace := ["internal/bytealg.abigen_runtime_cmpstring", "slices.overlaps[lethe/api.Entry]"], unfollowed := true, recurses := true, apart := false, narrowed := true }
def TreeUndoUptoSaid : Prop := treeUndoUptoRow.holds Try.pinned (OpenSpec.upto treeUndoSpec)

/-- 'lethelaw12.MediumReplays', WHERE WHAT IT READS IS OF BULK AT MOST 1048576: true; the input reads as it did. -/
def mediumReplaysUptoRow : OpenClaim := { program := "ytmbhfibldklecaa", sum := "dffbc2aed130ab959f694a3973cab66cfe80682c321f19ba50c9aaa75f419aa8", func := "lethe/lethelaw12.MediumReplays", spec := "mediumReplays", unfollowed := true, recurses := true, apart := false, narrowed := true }
def MediumReplaysUptoSaid : Prop := mediumReplaysUptoRow.holds Try.pinned (OpenSpec.upto mediumReplaysSpec)

/-- 'lethelaw12.MediumCuts', WHERE WHAT IT READS IS OF BULK AT MOST 1048576: true; the input reads as it did. -/
def mediumCutsUptoRow : OpenClaim := { program := "ytmbhfibldklecaa", sum := "dffbc2aed130ab959f694a3973cab66cfe80682c321f19ba50c9aaa75f419aa8", func := "lethe/lethelaw12.MediumCuts", spec := "mediumCuts", apart := false, narrowed := true }
def MediumCutsUptoSaid : Prop := mediumCutsUptoRow.holds Try.pinned (OpenSpec.upto mediumCutsSpec)

/-- 'lethelaw12.MediumCounts', WHERE WHAT IT READS IS OF BULK AT MOST 1048576: true; the input reads as it did. -/
def mediumCountsUptoRow : OpenClaim := { program := "ytmbhfibldklecaa", sum := "dffbc2aed130ab959f694a3973cab66cfe80682c321f19ba50c9aaa75f419aa8", func := "lethe/lethelaw12.MediumCounts", spec := "mediumCounts", unfollowed := true, recurses := true, apart := false, narrowed := true }
def MediumCountsUptoSaid : Prop := mediumCountsUptoRow.holds Try.pinned (OpenSpec.upto mediumCountsSpec)

end Rows
end Go.Proofs.Ytmbhfibldklecaa
