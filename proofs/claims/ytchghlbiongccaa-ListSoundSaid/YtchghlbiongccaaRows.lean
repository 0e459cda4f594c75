/-
  No cell of these rows narrows 'for every input' (looked for: loops, veiled, ifaces, maps, wideKeys, modest, calm, conditions, laid).
  DERIVED. THE GIVEN ROWS OF THIS SEAT. 12 by the template 'for every input the law returns true; each argument reads behind the call as it read before'; 0 by the template 'total and deterministic' (their statements: YtchghlbiongccaaTotals.lean).
  GIVEN WITH THE SEED: the statements are not yours to turn. If you find one false, say at which input.
  Laid BY PROGRAM, IN A SANDBOX (cutbox-rows.mjs): the forced cells as the released guide's own fill.sh prints them over the translation 45167bc5218be0a5… (all of the seat's roots in one cut). By AI agents, Wed Nov 11 2026. No macro, syntax, notation, axiom, sorry.
-/
import Derived.Test.YtchghlbiongccaaChecked
import GoSem.Claim
import GoSem.ClaimJoined
import GoSem.ClaimMapViews
import Derived.JoinedTies
import Derived.KernelRfl
namespace Go.Proofs.Ytchghlbiongccaa
/- THE CELL 'sum', in the pinned program and in every row, IS THE sha256 OF THE DUMP (.gsa) THAT YtchghlbiongccaaProg.lean LOADS. Nothing in Lean hashes anything: it is a label: what it is worth is what the hold of that sum in a sandbox is worth. -/
noncomputable def Try.pinned : Pinned := { name := "ytchghlbiongccaa", sum := "45167bc5218be0a5fa98270ab3861b84170686dcfed507314ed5e1d1b1d0fa25", checked := Try.checked }
namespace Rows
def none {H : Type} : Left H := { results := [], args := [] }

/-- 'lethelaw11.PowerPlays': WHATEVER THE INPUT: true; the input reads as it did. -/
def powerPlaysSpec : ChangeSpec := { name := "powerPlays", fn := fun _ => fun
  | [d] => { results := [.lit (.bool true)], args := [d] }
  | _ => none }
def powerPlaysRow : OpenClaim := { program := "ytchghlbiongccaa", sum := "45167bc5218be0a5fa98270ab3861b84170686dcfed507314ed5e1d1b1d0fa25", func := "lethe/lethelaw11.PowerPlays", spec := "powerPlays", apart := false }
def PowerPlaysSaid : Prop := powerPlaysRow.holds Try.pinned (OpenSpec.ofChange powerPlaysSpec)

/-- ITS FALSE NEIGHBOUR: 'it returns false'. Refute it at one input. -/
def powerPlaysWrong : ChangeSpec := { name := "powerPlays", fn := fun _ => fun
  | [d] => { results := [.lit (.bool false)], args := [d] }
  | _ => none }
def PowerPlaysWrongFalsely : Prop := powerPlaysRow.holds Try.pinned (OpenSpec.ofChange powerPlaysWrong)

/-- 'lethelaw11.PowerCuts': WHATEVER THE INPUT: true; the input reads as it did. -/
def powerCutsSpec : ChangeSpec := { name := "powerCuts", fn := fun _ => fun
  | [d1, d2] => { results := [.lit (.bool true)], args := [d1, d2] }
  | _ => none }
def powerCutsRow : OpenClaim := { program := "ytchghlbiongccaa", sum := "45167bc5218be0a5fa98270ab3861b84170686dcfed507314ed5e1d1b1d0fa25", func := "lethe/lethelaw11.PowerCuts", spec := "powerCuts", apart := false }
def PowerCutsSaid : Prop := powerCutsRow.holds Try.pinned (OpenSpec.ofChange powerCutsSpec)

/-- ITS FALSE NEIGHBOUR: 'it returns false'. Refute it at one input. -/
def powerCutsWrong : ChangeSpec := { name := "powerCuts", fn := fun _ => fun
  | [d1, d2] => { results := [.lit (.bool false)], args := [d1, d2] }
  | _ => none }
def PowerCutsWrongFalsely : Prop := powerCutsRow.holds Try.pinned (OpenSpec.ofChange powerCutsWrong)

/-- 'lethelaw08.ListNames': WHATEVER THE INPUT: true; the input reads as it did. -/
def listNamesSpec : ChangeSpec := { name := "listNames", fn := fun _ => fun
  | [d1, d2] => { results := [.lit (.bool true)], args := [d1, d2] }
  | _ => none }
def listNamesRow : OpenClaim := { program := "ytchghlbiongccaa", sum := "45167bc5218be0a5fa98270ab3861b84170686dcfed507314ed5e1d1b1d0fa25", func := "lethe/lethelaw08.ListNames", spec := "listNames", inPlace := ["internal/bytealg.abigen_runtime_cmpstring", "slices.overlaps[lethe/api.Entry]"], unfollowed := true, recurses := true, apart := false }
def ListNamesSaid : Prop := listNamesRow.holds Try.pinned (OpenSpec.ofChange listNamesSpec)

/-- ITS FALSE NEIGHBOUR: 'it returns false'. Refute it at one input. -/
def listNamesWrong : ChangeSpec := { name := "listNames", fn := fun _ => fun
  | [d1, d2] => { results := [.lit (.bool false)], args := [d1, d2] }
  | _ => none }
def ListNamesWrongFalsely : Prop := listNamesRow.holds Try.pinned (OpenSpec.ofChange listNamesWrong)

/-- 'lethelaw08.ListRanges': WHATEVER THE INPUT: true; the input reads as it did. -/
def listRangesSpec : ChangeSpec := { name := "listRanges", fn := fun _ => fun
  | [d1, d2, d3, d4] => { results := [.lit (.bool true)], args := [d1, d2, d3, d4] }
  | _ => none }
def listRangesRow : OpenClaim := { program := "ytchghlbiongccaa", sum := "45167bc5218be0a5fa98270ab3861b84170686dcfed507314ed5e1d1b1d0fa25", func := "lethe/lethelaw08.ListRanges", spec := "listRanges", inPlace := ["internal/bytealg.abigen_runtime_cmpstring", "slices.overlaps[lethe/api.Entry]"], unfollowed := true, recurses := true, apart := false }
def ListRangesSaid : Prop := listRangesRow.holds Try.pinned (OpenSpec.ofChange listRangesSpec)

/-- ITS FALSE NEIGHBOUR: 'it returns false'. Refute it at one input. -/
def listRangesWrong : ChangeSpec := { name := "listRanges", fn := fun _ => fun
  | [d1, d2, d3, d4] => { results := [.lit (.bool false)], args := [d1, d2, d3, d4] }
  | _ => none }
def ListRangesWrongFalsely : Prop := listRangesRow.holds Try.pinned (OpenSpec.ofChange listRangesWrong)

/-- 'lethelaw08.ListAgree': WHATEVER THE INPUT: true; the input reads as it did. -/
def listAgreeSpec : ChangeSpec := { name := "listAgree", fn := fun _ => fun
  | [d1, d2, d3] => { results := [.lit (.bool true)], args := [d1, d2, d3] }
  | _ => none }
def listAgreeRow : OpenClaim := { program := "ytchghlbiongccaa", sum := "45167bc5218be0a5fa98270ab3861b84170686dcfed507314ed5e1d1b1d0fa25", func := "lethe/lethelaw08.ListAgree", spec := "listAgree", inPlace := ["internal/bytealg.abigen_runtime_cmpstring", "slices.overlaps[lethe/api.Entry]"], unfollowed := true, recurses := true, apart := false }
def ListAgreeSaid : Prop := listAgreeRow.holds Try.pinned (OpenSpec.ofChange listAgreeSpec)

/-- ITS FALSE NEIGHBOUR: 'it returns false'. Refute it at one input. -/
def listAgreeWrong : ChangeSpec := { name := "listAgree", fn := fun _ => fun
  | [d1, d2, d3] => { results := [.lit (.bool false)], args := [d1, d2, d3] }
  | _ => none }
def ListAgreeWrongFalsely : Prop := listAgreeRow.holds Try.pinned (OpenSpec.ofChange listAgreeWrong)

/-- 'lethelaw08.ListSound': WHATEVER THE INPUT: true; the input reads as it did. -/
def listSoundSpec : ChangeSpec := { name := "listSound", fn := fun _ => fun
  | [d1, d2] => { results := [.lit (.bool true)], args := [d1, d2] }
  | _ => none }
def listSoundRow : OpenClaim := { program := "ytchghlbiongccaa", sum := "45167bc5218be0a5fa98270ab3861b84170686dcfed507314ed5e1d1b1d0fa25", func := "lethe/lethelaw08.ListSound", spec := "listSound", inPlace := ["internal/bytealg.abigen_runtime_cmpstring", "slices.overlaps[lethe/api.Entry]"], unfollowed := true, recurses := true, apart := false }
def ListSoundSaid : Prop := listSoundRow.holds Try.pinned (OpenSpec.ofChange listSoundSpec)

/-- ITS FALSE NEIGHBOUR: 'it returns false'. Refute it at one input. -/
def listSoundWrong : ChangeSpec := { name := "listSound", fn := fun _ => fun
  | [d1, d2] => { results := [.lit (.bool false)], args := [d1, d2] }
  | _ => none }
def ListSoundWrongFalsely : Prop := listSoundRow.holds Try.pinned (OpenSpec.ofChange listSoundWrong)

/-- 'lethelaw08.ListUnion': WHATEVER THE INPUT: true; the input reads as it did. -/
def listUnionSpec : ChangeSpec := { name := "listUnion", fn := fun _ => fun
  | [d1, d2, d3] => { results := [.lit (.bool true)], args := [d1, d2, d3] }
  | _ => none }
def listUnionRow : OpenClaim := { program := "ytchghlbiongccaa", sum := "45167bc5218be0a5fa98270ab3861b84170686dcfed507314ed5e1d1b1d0fa25", func := "lethe/lethelaw08.ListUnion", spec := "listUnion", inPlace := ["internal/bytealg.abigen_runtime_cmpstring", "slices.overlaps[lethe/api.Entry]"], unfollowed := true, recurses := true, apart := false }
def ListUnionSaid : Prop := listUnionRow.holds Try.pinned (OpenSpec.ofChange listUnionSpec)

/-- ITS FALSE NEIGHBOUR: 'it returns false'. Refute it at one input. -/
def listUnionWrong : ChangeSpec := { name := "listUnion", fn := fun _ => fun
  | [d1, d2, d3] => { results := [.lit (.bool false)], args := [d1, d2, d3] }
  | _ => none }
def ListUnionWrongFalsely : Prop := listUnionRow.holds Try.pinned (OpenSpec.ofChange listUnionWrong)

/-- 'lethelaw07.TreeUndo': WHATEVER THE INPUT: true; the input reads as it did. -/
def treeUndoSpec : ChangeSpec := { name := "treeUndo", fn := fun _ => fun
  | [d1, d2] => { results := [.lit (.bool true)], args := [d1, d2] }
  | _ => none }
def treeUndoRow : OpenClaim := { program := "ytchghlbiongccaa", sum := "45167bc5218be0a5fa98270ab3861b84170686dcfed507314ed5e1d1b1d0fa25", func := "lethe/lethelaw07.TreeUndo", spec := "treeUndo", inPlace := ["internal/bytealg.abigen_runtime_cmpstring", "slices.overlaps[lethe/api.Entry]"], unfollowed := true, recurses := true, apart := false }
def TreeUndoSaid : Prop := treeUndoRow.holds Try.pinned (OpenSpec.ofChange treeUndoSpec)

/-- ITS FALSE NEIGHBOUR: 'it returns false'. Refute it at one input. -/
def treeUndoWrong : ChangeSpec := { name := "treeUndo", fn := fun _ => fun
  | [d1, d2] => { results := [.lit (.bool false)], args := [d1, d2] }
  | _ => none }
def TreeUndoWrongFalsely : Prop := treeUndoRow.holds Try.pinned (OpenSpec.ofChange treeUndoWrong)

/-- 'lethelaw07.TreeFresh': WHATEVER THE INPUT: true; the input reads as it did. -/
def treeFreshSpec : ChangeSpec := { name := "treeFresh", fn := fun _ => fun
  | [d] => { results := [.lit (.bool true)], args := [d] }
  | _ => none }
def treeFreshRow : OpenClaim := { program := "ytchghlbiongccaa", sum := "45167bc5218be0a5fa98270ab3861b84170686dcfed507314ed5e1d1b1d0fa25", func := "lethe/lethelaw07.TreeFresh", spec := "treeFresh", inPlace := ["internal/bytealg.abigen_runtime_cmpstring", "slices.overlaps[lethe/api.Entry]"], unfollowed := true, recurses := true, apart := false }
def TreeFreshSaid : Prop := treeFreshRow.holds Try.pinned (OpenSpec.ofChange treeFreshSpec)

/-- ITS FALSE NEIGHBOUR: 'it returns false'. Refute it at one input. -/
def treeFreshWrong : ChangeSpec := { name := "treeFresh", fn := fun _ => fun
  | [d] => { results := [.lit (.bool false)], args := [d] }
  | _ => none }
def TreeFreshWrongFalsely : Prop := treeFreshRow.holds Try.pinned (OpenSpec.ofChange treeFreshWrong)

/-- 'lethelaw07.TreeMap': WHATEVER THE INPUT: true; the input reads as it did. -/
def treeMapSpec : ChangeSpec := { name := "treeMap", fn := fun _ => fun
  | [d] => { results := [.lit (.bool true)], args := [d] }
  | _ => none }
def treeMapRow : OpenClaim := { program := "ytchghlbiongccaa", sum := "45167bc5218be0a5fa98270ab3861b84170686dcfed507314ed5e1d1b1d0fa25", func := "lethe/lethelaw07.TreeMap", spec := "treeMap", inPlace := ["internal/bytealg.abigen_runtime_cmpstring", "slices.overlaps[lethe/api.Entry]"], unfollowed := true, recurses := true, apart := false }
def TreeMapSaid : Prop := treeMapRow.holds Try.pinned (OpenSpec.ofChange treeMapSpec)

/-- ITS FALSE NEIGHBOUR: 'it returns false'. Refute it at one input. -/
def treeMapWrong : ChangeSpec := { name := "treeMap", fn := fun _ => fun
  | [d] => { results := [.lit (.bool false)], args := [d] }
  | _ => none }
def TreeMapWrongFalsely : Prop := treeMapRow.holds Try.pinned (OpenSpec.ofChange treeMapWrong)

/-- 'lethelaw07.TreeShapes': WHATEVER THE INPUT: true; the input reads as it did. -/
def treeShapesSpec : ChangeSpec := { name := "treeShapes", fn := fun _ => fun
  | [d] => { results := [.lit (.bool true)], args := [d] }
  | _ => none }
def treeShapesRow : OpenClaim := { program := "ytchghlbiongccaa", sum := "45167bc5218be0a5fa98270ab3861b84170686dcfed507314ed5e1d1b1d0fa25", func := "lethe/lethelaw07.TreeShapes", spec := "treeShapes", inPlace := ["internal/bytealg.abigen_runtime_cmpstring", "slices.overlaps[lethe/api.Entry]"], unfollowed := true, recurses := true, apart := false }
def TreeShapesSaid : Prop := treeShapesRow.holds Try.pinned (OpenSpec.ofChange treeShapesSpec)

/-- ITS FALSE NEIGHBOUR: 'it returns false'. Refute it at one input. -/
def treeShapesWrong : ChangeSpec := { name := "treeShapes", fn := fun _ => fun
  | [d] => { results := [.lit (.bool false)], args := [d] }
  | _ => none }
def TreeShapesWrongFalsely : Prop := treeShapesRow.holds Try.pinned (OpenSpec.ofChange treeShapesWrong)

/-- 'lethelaw07.TreeOwn': WHATEVER THE INPUT: true; the input reads as it did. -/
def treeOwnSpec : ChangeSpec := { name := "treeOwn", fn := fun _ => fun
  | [d] => { results := [.lit (.bool true)], args := [d] }
  | _ => none }
def treeOwnRow : OpenClaim := { program := "ytchghlbiongccaa", sum := "45167bc5218be0a5fa98270ab3861b84170686dcfed507314ed5e1d1b1d0fa25", func := "lethe/lethelaw07.TreeOwn", spec := "treeOwn", inPlace := ["internal/bytealg.abigen_runtime_cmpstring", "slices.overlaps[lethe/api.Entry]"], unfollowed := true, recurses := true, apart := false }
def TreeOwnSaid : Prop := treeOwnRow.holds Try.pinned (OpenSpec.ofChange treeOwnSpec)

/-- ITS FALSE NEIGHBOUR: 'it returns false'. Refute it at one input. -/
def treeOwnWrong : ChangeSpec := { name := "treeOwn", fn := fun _ => fun
  | [d] => { results := [.lit (.bool false)], args := [d] }
  | _ => none }
def TreeOwnWrongFalsely : Prop := treeOwnRow.holds Try.pinned (OpenSpec.ofChange treeOwnWrong)

/- THE SECOND FORM. 'bulk': how many values and letters a reading holds, each counted each time it is reached (what is shared counts as often as it is met; a slice's spare places count too). A statement '..UptoSaid' is the law's where the arguments, and the package variables that the reading takes, are together of bulk at most 1048576: NARROWER than '..Said'. Prove '..Said' where nothing that the law and all that it calls make is longer than what came in: it says more and counts as full. Else prove '..UptoSaid'. A law counts once. -/
mutual
def uptoBulk {H : Type} : DataW H → Nat
  | .lit (.string bytes) => bytes.length + 1
  | .lit _ => 1
  | .nil => 1
  | .ptr d => uptoBulk d + 1
  | .slice elems spare => uptoBulkAll elems + uptoBulkAll spare + 1
  | .agg parts => uptoBulkAll parts + 1
  | .iface _ d => uptoBulk d + 1
  | .map entries => uptoBulkEntries entries + 1
  | .held _ => 1
def uptoBulkAll {H : Type} : List (DataW H) → Nat
  | [] => 0
  | d :: r => uptoBulk d + uptoBulkAll r
def uptoBulkEntries {H : Type} : List (Lit × DataW H) → Nat
  | [] => 0
  | x :: r => uptoBulkEntry x + uptoBulkEntries r
def uptoBulkEntry {H : Type} : Lit × DataW H → Nat
  | (.string bytes, d) => bytes.length + uptoBulk d + 1
  | (_, d) => uptoBulk d + 1
 end
def uptoSmall : (H : Type) → List (DataW H) → Bool := fun _ ds => decide (uptoBulkAll ds ≤ 1048576)
def OpenSpec.upto (s : _root_.Go.ChangeSpec) : _root_.Go.OpenSpec := { _root_.Go.OpenSpec.ofChange s with cond := some uptoSmall }

/-- 'lethelaw11.PowerPlays', WHERE WHAT IT READS IS OF BULK AT MOST 1048576: true; the input reads as it did. -/
def powerPlaysUptoRow : OpenClaim := { program := "ytchghlbiongccaa", sum := "45167bc5218be0a5fa98270ab3861b84170686dcfed507314ed5e1d1b1d0fa25", func := "lethe/lethelaw11.PowerPlays", spec := "powerPlays", apart := false, narrowed := true }
def PowerPlaysUptoSaid : Prop := powerPlaysUptoRow.holds Try.pinned (OpenSpec.upto powerPlaysSpec)

/-- 'lethelaw11.PowerCuts', WHERE WHAT IT READS IS OF BULK AT MOST 1048576: true; the input reads as it did. -/
def powerCutsUptoRow : OpenClaim := { program := "ytchghlbiongccaa", sum := "45167bc5218be0a5fa98270ab3861b84170686dcfed507314ed5e1d1b1d0fa25", func := "lethe/lethelaw11.PowerCuts", spec := "powerCuts", apart := false, narrowed := true }
def PowerCutsUptoSaid : Prop := powerCutsUptoRow.holds Try.pinned (OpenSpec.upto powerCutsSpec)

/-- 'lethelaw08.ListNames', WHERE WHAT IT READS IS OF BULK AT MOST 1048576: true; the input reads as it did. -/
def listNamesUptoRow : OpenClaim := { program := "ytchghlbiongccaa", sum := "45167bc5218be0a5fa98270ab3861b84170686dcfed507314ed5e1d1b1d0fa25", func := "lethe/lethelaw08.ListNames", spec := "listNames", inPlace := ["internal/bytealg.abigen_runtime_cmpstring", "slices.overlaps[lethe/api.Entry]"], unfollowed := true, recurses := true, apart := false, narrowed := true }
def ListNamesUptoSaid : Prop := listNamesUptoRow.holds Try.pinned (OpenSpec.upto listNamesSpec)

/-- 'lethelaw08.ListRanges', WHERE WHAT IT READS IS OF BULK AT MOST 1048576: true; the input reads as it did. -/
def listRangesUptoRow : OpenClaim := { program := "ytchghlbiongccaa", sum := "45167bc5218be0a5fa98270ab3861b84170686dcfed507314ed5e1d1b1d0fa25", func := "lethe/lethelaw08.ListRanges", spec := "listRanges", inPlace := ["internal/bytealg.abigen_runtime_cmpstring", "slices.overlaps[lethe/api.Entry]"], unfollowed := true, recurses := true, apart := false, narrowed := true }
def ListRangesUptoSaid : Prop := listRangesUptoRow.holds Try.pinned (OpenSpec.upto listRangesSpec)

/-- 'lethelaw08.ListAgree', WHERE WHAT IT READS IS OF BULK AT MOST 1048576: true; the input reads as it did. -/
def listAgreeUptoRow : OpenClaim := { program := "ytchghlbiongccaa", sum := "45167bc5218be0a5fa98270ab3861b84170686dcfed507314ed5e1d1b1d0fa25", func := "lethe/lethelaw08.ListAgree", spec := "listAgree", inPlace := ["internal/bytealg.abigen_runtime_cmpstring", "slices.overlaps[lethe/api.Entry]"], unfollowed := true, recurses := true, apart := false, narrowed := true }
def ListAgreeUptoSaid : Prop := listAgreeUptoRow.holds Try.pinned (OpenSpec.upto listAgreeSpec)

/-- 'lethelaw08.ListSound', WHERE WHAT IT READS IS OF BULK AT MOST 1048576: true; the input reads as it did. -/
def listSoundUptoRow : OpenClaim := { program := "ytchghlbiongccaa", sum := "45167bc5218be0a5fa98270ab3861b84170686dcfed507314ed5e1d1b1d0fa25", func := "lethe/lethelaw08.ListSound", spec := "listSound", inPlace := ["internal/bytealg.abigen_runtime_cmpstring", "slices.overlaps[lethe/api.Entry]"], unfollowed := true, recurses := true, apart := false, narrowed := true }
def ListSoundUptoSaid : Prop := listSoundUptoRow.holds Try.pinned (OpenSpec.upto listSoundSpec)

/-- 'lethelaw08.ListUnion', WHERE WHAT IT READS IS OF BULK AT MOST 1048576: true; the input reads as it did. -/
def listUnionUptoRow : OpenClaim := { program := "ytchghlbiongccaa", sum := "45167bc5218be0a5fa98270ab3861b84170686dcfed507314ed5e1d1b1d0fa25", func := "lethe/lethelaw08.ListUnion", spec := "listUnion", inPlace := ["internal/bytealg.abigen_runtime_cmpstring", "slices.overlaps[lethe/api.Entry]"], unfollowed := true, recurses := true, apart := false, narrowed := true }
def ListUnionUptoSaid : Prop := listUnionUptoRow.holds Try.pinned (OpenSpec.upto listUnionSpec)

/-- 'lethelaw07.TreeUndo', WHERE WHAT IT READS IS OF BULK AT MOST 1048576: true; the input reads as it did. -/
def treeUndoUptoRow : OpenClaim := { program := "ytchghlbiongccaa", sum := "45167bc5218be0a5fa98270ab3861b84170686dcfed507314ed5e1d1b1d0fa25", func := "lethe/lethelaw07.TreeUndo", spec := "treeUndo", inPlace := ["internal/bytealg.abigen_runtime_cmpstring", "slices.overlaps[lethe/api.Entry]"], unfollowed := true, recurses := true, apart := false, narrowed := true }
def TreeUndoUptoSaid : Prop := treeUndoUptoRow.holds Try.pinned (OpenSpec.upto treeUndoSpec)

/-- 'lethelaw07.TreeFresh', WHERE WHAT IT READS IS OF BULK AT MOST 1048576: true; the input reads as it did. -/
def treeFreshUptoRow : OpenClaim := { program := "ytchghlbiongccaa", sum := "45167bc5218be0a5fa98270ab3861b84170686dcfed507314ed5e1d1b1d0fa25", func := "lethe/lethelaw07.TreeFresh", spec := "treeFresh", inPlace := ["internal/bytealg.abigen_runtime_cmpstring", "slices.overlaps[lethe/api.Entry]"], unfollowed := true, recurses := true, apart := false, narrowed := true }
def TreeFreshUptoSaid : Prop := treeFreshUptoRow.holds Try.pinned (OpenSpec.upto treeFreshSpec)

/-- 'lethelaw07.TreeMap', WHERE WHAT IT READS IS OF BULK AT MOST 1048576: true; the input reads as it did. -/
def treeMapUptoRow : OpenClaim := { program := "ytchghlbiongccaa", sum := "45167bc5218be0a5fa98270ab3861b84170686dcfed507314ed5e1d1b1d0fa25", func := "lethe/lethelaw07.TreeMap", spec := "treeMap", inPlace := ["internal/bytealg.abigen_runtime_cmpstring", "slices.overlaps[lethe/api.Entry]"], unfollowed := true, recurses := true, apart := false, narrowed := true }
def TreeMapUptoSaid : Prop := treeMapUptoRow.holds Try.pinned (OpenSpec.upto treeMapSpec)

/-- 'lethelaw07.TreeShapes', WHERE WHAT IT READS IS OF BULK AT MOST 1048576: true; the input reads as it did. -/
def treeShapesUptoRow : OpenClaim := { program := "ytchghlbiongccaa", sum := "45167bc5218be0a5fa98270ab3861b84170686dcfed507314ed5e1d1b1d0fa25", func := "lethe/lethelaw07.TreeShapes", spec := "treeShapes", inPlace := ["internal/bytealg.abigen_runtime_cmpstring", "slices.overlaps[lethe/api.Entry]"], unfollowed := true, recurses := true, apart := false, narrowed := true }
def TreeShapesUptoSaid : Prop := treeShapesUptoRow.holds Try.pinned (OpenSpec.upto treeShapesSpec)

/-- 'lethelaw07.TreeOwn', WHERE WHAT IT READS IS OF BULK AT MOST 1048576: true; the input reads as it did. -/
def treeOwnUptoRow : OpenClaim := { program := "ytchghlbiongccaa", sum := "45167bc5218be0a5fa98270ab3861b84170686dcfed507314ed5e1d1b1d0fa25", func := "lethe/lethelaw07.TreeOwn", spec := "treeOwn", inPlace := ["internal/bytealg.abigen_runtime_cmpstring", "slices.overlaps[lethe/api.Entry]"], unfollowed := true, recurses := true, apart := false, narrowed := true }
def TreeOwnUptoSaid : Prop := treeOwnUptoRow.holds Try.pinned (OpenSpec.upto treeOwnSpec)

end Rows
end Go.Proofs.Ytchghlbiongccaa
