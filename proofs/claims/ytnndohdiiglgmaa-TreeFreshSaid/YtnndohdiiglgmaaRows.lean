/-
  No cell of these rows narrows 'for every input' (looked for: loops, veiled, ifaces, maps, wideKeys, modest, calm, conditions, laid).
  DERIVED. THE GIVEN ROWS OF THIS SEAT. 8 by the template 'for every input the law returns true; each argument reads behind the call as it read before'; 0 by the template 'total and deterministic' (their statements: YtnndohdiiglgmaaTotals.lean).
  GIVEN WITH THE SEED: the statements are not yours to turn. If you find one false, say at which input.
  Laid BY PROGRAM, IN A SANDBOX (cutbox-rows.mjs): the forced cells as the released guide's own fill.sh prints them over the translation 17bac378f098003e… (all of the seat's roots in one cut). By AI agents, Wed Nov 11 2026. No macro, syntax, notation, axiom, sorry.
-/
import Derived.Test.YtnndohdiiglgmaaChecked
import GoSem.Claim
import GoSem.ClaimJoined
import GoSem.ClaimMapViews
import Derived.JoinedTies
import Derived.KernelRfl
namespace Go.Proofs.Ytnndohdiiglgmaa
/- THE CELL 'sum', in the pinned program and in every row, IS THE sha256 OF THE DUMP (.gsa) THAT YtnndohdiiglgmaaProg.lean LOADS. Nothing in Lean hashes anything: it is a label: what it is worth is what the hold of that sum in a sandbox is worth. -/
noncomputable def Try.pinned : Pinned := { name := "ytnndohdiiglgmaa", sum := "17bac378f098003e9fb3c5f85c7c70ecf3cef2c72e8c5ffea518b1058549bcb3", checked := Try.checked }
namespace Rows
def none {H : Type} : Left H := { results := [], args := [] }

/-- 'lethelaw07.TreeMap': WHATEVER THE INPUT: true; the input reads as it did. -/
def treeMapSpec : ChangeSpec := { name := "treeMap", fn := fun _ => fun
  | [d] => { results := [.lit (.bool true)], args := [d] }
  | _ => none }
def treeMapRow : OpenClaim := { program := "ytnndohdiiglgmaa", sum := "17bac378f098003e9fb3c5f85c7c70ecf3cef2c72e8c5ffea518b1058549bcb3", func := "lethe/lethelaw07.TreeMap", spec := "treeMap", inPlace := ["internal/bytealg.abigen_runtime_cmpstring", "slices.overlaps[lethe/api.Entry]"], unfollowed := true, recurses := true, apart := false }
def TreeMapSaid : Prop := treeMapRow.holds Try.pinned (OpenSpec.ofChange treeMapSpec)

/-- ITS FALSE NEIGHBOUR: 'it returns false'. Refute it at one input. -/
def treeMapWrong : ChangeSpec := { name := "treeMap", fn := fun _ => fun
  | [d] => { results := [.lit (.bool false)], args := [d] }
  | _ => none }
def TreeMapWrongFalsely : Prop := treeMapRow.holds Try.pinned (OpenSpec.ofChange treeMapWrong)

/-- 'lethelaw07.TreeShapes': WHATEVER THE INPUT: true; the input reads as it did. -/
def treeShapesSpec : ChangeSpec := { name := "treeShapes", fn := fun _ => fun
  | [d] => { results := [.lit (.bool true)], args := [d] }
  | _ => none }
def treeShapesRow : OpenClaim := { program := "ytnndohdiiglgmaa", sum := "17bac378f098003e9fb3c5f85c7c70ecf3cef2c72e8c5ffea518b1058549bcb3", func := "lethe/lethelaw07.TreeShapes", spec := "treeShapes", inPlace := ["internal/bytealg.abigen_runtime_cmpstring", "slices.overlaps[lethe/api.Entry]"], unfollowed := true, recurses := true, apart := false }
def TreeShapesSaid : Prop := treeShapesRow.holds Try.pinned (OpenSpec.ofChange treeShapesSpec)

/-- ITS FALSE NEIGHBOUR: 'it returns false'. Refute it at one input. -/
def treeShapesWrong : ChangeSpec := { name := "treeShapes", fn := fun _ => fun
  | [d] => { results := [.lit (.bool false)], args := [d] }
  | _ => none }
def TreeShapesWrongFalsely : Prop := treeShapesRow.holds Try.pinned (OpenSpec.ofChange treeShapesWrong)

/-- 'lethelaw07.TreeMoves': WHATEVER THE INPUT: true; the input reads as it did. -/
def treeMovesSpec : ChangeSpec := { name := "treeMoves", fn := fun _ => fun
  | [d1, d2] => { results := [.lit (.bool true)], args := [d1, d2] }
  | _ => none }
def treeMovesRow : OpenClaim := { program := "ytnndohdiiglgmaa", sum := "17bac378f098003e9fb3c5f85c7c70ecf3cef2c72e8c5ffea518b1058549bcb3", func := "lethe/lethelaw07.TreeMoves", spec := "treeMoves", inPlace := ["internal/bytealg.abigen_runtime_cmpstring", "slices.overlaps[lethe/api.Entry]"], unfollowed := true, recurses := true, apart := false }
def TreeMovesSaid : Prop := treeMovesRow.holds Try.pinned (OpenSpec.ofChange treeMovesSpec)

/-- ITS FALSE NEIGHBOUR: 'it returns false'. Refute it at one input. -/
def treeMovesWrong : ChangeSpec := { name := "treeMoves", fn := fun _ => fun
  | [d1, d2] => { results := [.lit (.bool false)], args := [d1, d2] }
  | _ => none }
def TreeMovesWrongFalsely : Prop := treeMovesRow.holds Try.pinned (OpenSpec.ofChange treeMovesWrong)

/-- 'lethelaw07.TreeFresh': WHATEVER THE INPUT: true; the input reads as it did. -/
def treeFreshSpec : ChangeSpec := { name := "treeFresh", fn := fun _ => fun
  | [d] => { results := [.lit (.bool true)], args := [d] }
  | _ => none }
def treeFreshRow : OpenClaim := { program := "ytnndohdiiglgmaa", sum := "17bac378f098003e9fb3c5f85c7c70ecf3cef2c72e8c5ffea518b1058549bcb3", func := "lethe/lethelaw07.TreeFresh", spec := "treeFresh", inPlace := ["internal/bytealg.abigen_runtime_cmpstring", "slices.overlaps[lethe/api.Entry]"], unfollowed := true, recurses := true, apart := false }
def TreeFreshSaid : Prop := treeFreshRow.holds Try.pinned (OpenSpec.ofChange treeFreshSpec)

/-- ITS FALSE NEIGHBOUR: 'it returns false'. Refute it at one input. -/
def treeFreshWrong : ChangeSpec := { name := "treeFresh", fn := fun _ => fun
  | [d] => { results := [.lit (.bool false)], args := [d] }
  | _ => none }
def TreeFreshWrongFalsely : Prop := treeFreshRow.holds Try.pinned (OpenSpec.ofChange treeFreshWrong)

/-- 'lethelaw07.TreeUndo': WHATEVER THE INPUT: true; the input reads as it did. -/
def treeUndoSpec : ChangeSpec := { name := "treeUndo", fn := fun _ => fun
  | [d1, d2] => { results := [.lit (.bool true)], args := [d1, d2] }
  | _ => none }
def treeUndoRow : OpenClaim := { program := "ytnndohdiiglgmaa", sum := "17bac378f098003e9fb3c5f85c7c70ecf3cef2c72e8c5ffea518b1058549bcb3", func := "lethe/lethelaw07.TreeUndo", spec := "treeUndo", inPlace := ["internal/bytealg.abigen_runtime_cmpstring", "slices.overlaps[lethe/api.Entry]"], unfollowed := true, recurses := true, apart := false }
def TreeUndoSaid : Prop := treeUndoRow.holds Try.pinned (OpenSpec.ofChange treeUndoSpec)

/-- ITS FALSE NEIGHBOUR: 'it returns false'. Refute it at one input. -/
def treeUndoWrong : ChangeSpec := { name := "treeUndo", fn := fun _ => fun
  | [d1, d2] => { results := [.lit (.bool false)], args := [d1, d2] }
  | _ => none }
def TreeUndoWrongFalsely : Prop := treeUndoRow.holds Try.pinned (OpenSpec.ofChange treeUndoWrong)

/-- 'lethelaw13.CellPlays': WHATEVER THE INPUT: true; the input reads as it did. -/
def cellPlaysSpec : ChangeSpec := { name := "cellPlays", fn := fun _ => fun
  | [d] => { results := [.lit (.bool true)], args := [d] }
  | _ => none }
def cellPlaysRow : OpenClaim := { program := "ytnndohdiiglgmaa", sum := "17bac378f098003e9fb3c5f85c7c70ecf3cef2c72e8c5ffea518b1058549bcb3", func := "lethe/lethelaw13.CellPlays", spec := "cellPlays", apart := false }
def CellPlaysSaid : Prop := cellPlaysRow.holds Try.pinned (OpenSpec.ofChange cellPlaysSpec)

/-- ITS FALSE NEIGHBOUR: 'it returns false'. Refute it at one input. -/
def cellPlaysWrong : ChangeSpec := { name := "cellPlays", fn := fun _ => fun
  | [d] => { results := [.lit (.bool false)], args := [d] }
  | _ => none }
def CellPlaysWrongFalsely : Prop := cellPlaysRow.holds Try.pinned (OpenSpec.ofChange cellPlaysWrong)

/-- 'lethelaw13.CellForgets': WHATEVER THE INPUT: true; the input reads as it did. -/
def cellForgetsSpec : ChangeSpec := { name := "cellForgets", fn := fun _ => fun
  | [d1, d2] => { results := [.lit (.bool true)], args := [d1, d2] }
  | _ => none }
def cellForgetsRow : OpenClaim := { program := "ytnndohdiiglgmaa", sum := "17bac378f098003e9fb3c5f85c7c70ecf3cef2c72e8c5ffea518b1058549bcb3", func := "lethe/lethelaw13.CellForgets", spec := "cellForgets", apart := false }
def CellForgetsSaid : Prop := cellForgetsRow.holds Try.pinned (OpenSpec.ofChange cellForgetsSpec)

/-- ITS FALSE NEIGHBOUR: 'it returns false'. Refute it at one input. -/
def cellForgetsWrong : ChangeSpec := { name := "cellForgets", fn := fun _ => fun
  | [d1, d2] => { results := [.lit (.bool false)], args := [d1, d2] }
  | _ => none }
def CellForgetsWrongFalsely : Prop := cellForgetsRow.holds Try.pinned (OpenSpec.ofChange cellForgetsWrong)

/-- 'lethelaw13.CellShares': WHATEVER THE INPUT: true; the input reads as it did. -/
def cellSharesSpec : ChangeSpec := { name := "cellShares", fn := fun _ => fun
  | [d1, d2] => { results := [.lit (.bool true)], args := [d1, d2] }
  | _ => none }
def cellSharesRow : OpenClaim := { program := "ytnndohdiiglgmaa", sum := "17bac378f098003e9fb3c5f85c7c70ecf3cef2c72e8c5ffea518b1058549bcb3", func := "lethe/lethelaw13.CellShares", spec := "cellShares", apart := false }
def CellSharesSaid : Prop := cellSharesRow.holds Try.pinned (OpenSpec.ofChange cellSharesSpec)

/-- ITS FALSE NEIGHBOUR: 'it returns false'. Refute it at one input. -/
def cellSharesWrong : ChangeSpec := { name := "cellShares", fn := fun _ => fun
  | [d1, d2] => { results := [.lit (.bool false)], args := [d1, d2] }
  | _ => none }
def CellSharesWrongFalsely : Prop := cellSharesRow.holds Try.pinned (OpenSpec.ofChange cellSharesWrong)

/- THE SECOND FORM. 'bulk': how many values and letters a reading holds, each counted each time it is reached (what is shared counts as often as it is met; a slice's spare places count too). A statement '..UptoSaid' is the law's where the arguments, and the package variables that the reading takes, are together of bulk at most 1048576: NARROWER than '..Said'. Prove '..Said' where nothing that the law and all that it calls make is longer than what came in: it says more and counts as full. Else prove '..UptoSaid'. A law counts once. -/
mutual
def uptoBulk {H : Type} : DataW H → Nat
  | .lit (.string bytes) => bytes.length + 1
  | .lit _ => 1
  | .nil => 1
  | .ptr d => uptoBulk d + 1
  | .slice elems spare => uptoBulkAll elems + uptoBulkAll spare + 1
  | .agg parts => uptoBulkAll parts + 1
  | .iface _ d => uptoBulk d + 1
  | .map entries => uptoBulkEntries entries + 1
  | .held _ => 1
def uptoBulkAll {H : Type} : List (DataW H) → Nat
  | [] => 0
  | d :: r => uptoBulk d + uptoBulkAll r
def uptoBulkEntries {H : Type} : List (Lit × DataW H) → Nat
  | [] => 0
  | x :: r => uptoBulkEntry x + uptoBulkEntries r
def uptoBulkEntry {H : Type} : Lit × DataW H → Nat
  | (.string bytes, d) => bytes.length + uptoBulk d + 1
  | (_, d) => uptoBulk d + 1
 end
def uptoSmall : (H : Type) → List (DataW H) → Bool := fun _ ds => decide (uptoBulkAll ds ≤ 1048576)
def OpenSpec.upto (s : _root_.Go.ChangeSpec) : _root_.Go.OpenSpec := { _root_.Go.OpenSpec.ofChange s with cond := some uptoSmall }

/-- 'lethelaw07.TreeMap', WHERE WHAT IT READS IS OF BULK AT MOST 1048576: true; the input reads as it did. -/
def treeMapUptoRow : OpenClaim := { program := "ytnndohdiiglgmaa", sum := "17bac378f098003e9fb3c5f85c7c70ecf3cef2c72e8c5ffea518b1058549bcb3", func := "lethe/lethelaw07.TreeMap", spec := "treeMap", inPlace := ["internal/bytealg.abigen_runtime_cmpstring", "slices.overlaps[lethe/api.Entry]"], unfollowed := true, recurses := true, apart := false, narrowed := true }
def TreeMapUptoSaid : Prop := treeMapUptoRow.holds Try.pinned (OpenSpec.upto treeMapSpec)

/-- 'lethelaw07.TreeShapes', WHERE WHAT IT READS IS OF BULK AT MOST 1048576: true; the input reads as it did. -/
def treeShapesUptoRow : OpenClaim := { program := "ytnndohdiiglgmaa", sum := "17bac378f098003e9fb3c5f85c7c70ecf3cef2c72e8c5ffea518b1058549bcb3", func := "lethe/lethelaw07.TreeShapes", spec := "treeShapes", inPlace := ["internal/bytealg.abigen_runtime_cmpstring", "slices.overlaps[lethe/api.Entry]"], unfollowed := true, recurses := true, apart := false, narrowed := true }
def TreeShapesUptoSaid : Prop := treeShapesUptoRow.holds Try.pinned (OpenSpec.upto treeShapesSpec)

/-- 'lethelaw07.TreeMoves', WHERE WHAT IT READS IS OF BULK AT MOST 1048576: true; the input reads as it did. -/
def treeMovesUptoRow : OpenClaim := { program := "ytnndohdiiglgmaa", sum := "17bac378f098003e9fb3c5f85c7c70ecf3cef2c72e8c5ffea518b1058549bcb3", func := "lethe/lethelaw07.TreeMoves", spec := "treeMoves", inPlace := ["internal/bytealg.abigen_runtime_cmpstring", "slices.overlaps[lethe/api.Entry]"], unfollowed := true, recurses := true, apart := false, narrowed := true }
def TreeMovesUptoSaid : Prop := treeMovesUptoRow.holds Try.pinned (OpenSpec.upto treeMovesSpec)

/-- 'lethelaw07.TreeFresh', WHERE WHAT IT READS IS OF BULK AT MOST 1048576: true; the input reads as it did. -/
def treeFreshUptoRow : OpenClaim := { program := "ytnndohdiiglgmaa", sum := "17bac378f098003e9fb3c5f85c7c70ecf3cef2c72e8c5ffea518b1058549bcb3", func := "lethe/lethelaw07.TreeFresh", spec := "treeFresh", inPlace := ["internal/bytealg.abigen_runtime_cmpstring", "slices.overlaps[lethe/api.Entry]"], unfollowed := true, recurses := true, apart := false, narrowed := true }
def TreeFreshUptoSaid : Prop := treeFreshUptoRow.holds Try.pinned (OpenSpec.upto treeFreshSpec)

/-- 'lethelaw07.TreeUndo', WHERE WHAT IT READS IS OF BULK AT MOST 1048576: true; the input reads as it did. -/
def treeUndoUptoRow : OpenClaim := { program := "ytnndohdiiglgmaa", sum := "17bac378f098003e9fb3c5f85c7c70ecf3cef2c72e8c5ffea518b1058549bcb3", func := "lethe/lethelaw07.TreeUndo", spec := "treeUndo", inPlace := ["internal/bytealg.abigen_runtime_cmpstring", "slices.overlaps[lethe/api.Entry]"], unfollowed := true, recurses := true, apart := false, narrowed := true }
def TreeUndoUptoSaid : Prop := treeUndoUptoRow.holds Try.pinned (OpenSpec.upto treeUndoSpec)

/-- 'lethelaw13.CellPlays', WHERE WHAT IT READS IS OF BULK AT MOST 1048576: true; the input reads as it did. -/
def cellPlaysUptoRow : OpenClaim := { program := "ytnndohdiiglgmaa", sum := "17bac378f098003e9fb3c5f85c7c70ecf3cef2c72e8c5ffea518b1058549bcb3", func := "lethe/lethelaw13.CellPlays", spec := "cellPlays", apart := false, narrowed := true }
def CellPlaysUptoSaid : Prop := cellPlaysUptoRow.holds Try.pinned (OpenSpec.upto cellPlaysSpec)

/-- 'lethelaw13.CellForgets', WHERE WHAT IT READS IS OF BULK AT MOST 1048576: true; the input reads as it did. -/
def cellForgetsUptoRow : OpenClaim := { program := "ytnndohdiiglgmaa", sum := "17bac378f098003e9fb3c5f85c7c70ecf3cef2c72e8c5ffea518b1058549bcb3", func := "lethe/lethelaw13.CellForgets", spec := "cellForgets", apart := false, narrowed := true }
def CellForgetsUptoSaid : Prop := cellForgetsUptoRow.holds Try.pinned (OpenSpec.upto cellForgetsSpec)

/-- 'lethelaw13.CellShares', WHERE WHAT IT READS IS OF BULK AT MOST 1048576: true; the input reads as it did. -/
def cellSharesUptoRow : OpenClaim := { program := "ytnndohdiiglgmaa", sum := "17bac378f098003e9fb3c5f85c7c70ecf3cef2c72e8c5ffea518b1058549bcb3", func := "lethe/lethelaw13.CellShares", spec := "cellShares", apart := false, narrowed := true }
def CellSharesUptoSaid : Prop := cellSharesUptoRow.holds Try.pinned (OpenSpec.upto cellSharesSpec)

end Rows
end Go.Proofs.Ytnndohdiiglgmaa
