/-
  No cell of these rows narrows 'for every input' (looked for: loops, veiled, ifaces, maps, wideKeys, modest, calm, conditions, laid).
  DERIVED. THE GIVEN ROWS OF THIS SEAT. 7 by the template 'for every input the law returns true; each argument reads behind the call as it read before'; 0 by the template 'total and deterministic' (their statements: YtoenkkbcpafanaaTotals.lean).
  GIVEN WITH THE SEED: the statements are not yours to turn. If you find one false, say at which input.
  Laid BY PROGRAM, IN A SANDBOX (cutbox-rows.mjs): the forced cells as the released guide's own fill.sh prints them over the translation a7f4291d14889205… (all of the seat's roots in one cut). By AI agents, Wed Nov 11 2026. No macro, syntax, notation, axiom, sorry.
-/
import Derived.Test.YtoenkkbcpafanaaChecked
import GoSem.Claim
import GoSem.ClaimJoined
import GoSem.ClaimMapViews
import Derived.JoinedTies
import Derived.KernelRfl
namespace Go.Proofs.Ytoenkkbcpafanaa
/- THE CELL 'sum', in the pinned program and in every row, IS THE sha256 OF THE DUMP (.gsa) THAT YtoenkkbcpafanaaProg.lean LOADS. Nothing in Lean hashes anything: it is a label: what it is worth is what the hold of that sum in a sandbox is worth. -/
noncomputable def Try.pinned : Pinned := { name := "ytoenkkbcpafanaa", sum := "a7f4291d148892058af1a1f4c8bb70b782d4541ab47d205f241ca3460f39e140", checked := Try.checked }
namespace Rows
def none {H : Type} : Left H := { results := [], args := [] }

/-- 'lethelaw07.TreeMap': WHATEVER THE INPUT: true; the input reads as it did. -/
def treeMapSpec : ChangeSpec := { name := "treeMap", fn := fun _ => fun
  | [d] => { results := [.lit (.bool true)], args := [d] }
  | _ => none }
def treeMapRow : OpenClaim := { program := "ytoenkkbcpafanaa", sum := "a7f4291d148892058af1a1f4c8bb70b782d4541ab47d205f241ca3460f39e140", func := "lethe/lethelaw07.TreeMap", spec := "treeMap", inPlace := ["internal/bytealg.abigen_runtime_cmpstring", "slices.overlaps[lethe/api.Entry]"], unfollowed := true, recurses := true, apart := false }
def TreeMapSaid : Prop := treeMapRow.holds Try.pinned (OpenSpec.ofChange treeMapSpec)

/-- ITS FALSE NEIGHBOUR: 'it returns false'. Refute it at one input. -/
def treeMapWrong : ChangeSpec := { name := "treeMap", fn := fun _ => fun
  | [d] => { results := [.lit (.bool false)], args := [d] }
  | _ => none }
def TreeMapWrongFalsely : Prop := treeMapRow.holds Try.pinned (OpenSpec.ofChange treeMapWrong)

/-- 'lethelaw07.TreeShapes': WHATEVER THE INPUT: true; the input reads as it did. -/
def treeShapesSpec : ChangeSpec := { name := "treeShapes", fn := fun _ => fun
  | [d] => { results := [.lit (.bool true)], args := [d] }
  | _ => none }
def treeShapesRow : OpenClaim := { program := "ytoenkkbcpafanaa", sum := "a7f4291d148892058af1a1f4c8bb70b782d4541ab47d205f241ca3460f39e140", func := "lethe/lethelaw07.TreeShapes", spec := "treeShapes", inPlace := ["internal/bytealg.abigen_runtime_cmpstring", "slices.overlaps[lethe/api.Entry]"], unfollowed := true, recurses := true, apart := false }
def TreeShapesSaid : Prop := treeShapesRow.holds Try.pinned (OpenSpec.ofChange treeShapesSpec)

/-- ITS FALSE NEIGHBOUR: 'it returns false'. Refute it at one input. -/
def treeShapesWrong : ChangeSpec := { name := "treeShapes", fn := fun _ => fun
  | [d] => { results := [.lit (.bool false)], args := [d] }
  | _ => none }
def TreeShapesWrongFalsely : Prop := treeShapesRow.holds Try.pinned (OpenSpec.ofChange treeShapesWrong)

/-- 'lethelaw14.SegmentPlays': WHATEVER THE INPUT: true; the input reads as it did. -/
def segmentPlaysSpec : ChangeSpec := { name := "segmentPlays", fn := fun _ => fun
  | [d1, d2, d3] => { results := [.lit (.bool true)], args := [d1, d2, d3] }
  | _ => none }
def segmentPlaysRow : OpenClaim := { program := "ytoenkkbcpafanaa", sum := "a7f4291d148892058af1a1f4c8bb70b782d4541ab47d205f241ca3460f39e140", func := "lethe/lethelaw14.SegmentPlays", spec := "segmentPlays", unfollowed := true, recurses := true, apart := false }
def SegmentPlaysSaid : Prop := segmentPlaysRow.holds Try.pinned (OpenSpec.ofChange segmentPlaysSpec)

/-- ITS FALSE NEIGHBOUR: 'it returns false'. Refute it at one input. -/
def segmentPlaysWrong : ChangeSpec := { name := "segmentPlays", fn := fun _ => fun
  | [d1, d2, d3] => { results := [.lit (.bool false)], args := [d1, d2, d3] }
  | _ => none }
def SegmentPlaysWrongFalsely : Prop := segmentPlaysRow.holds Try.pinned (OpenSpec.ofChange segmentPlaysWrong)

/-- 'lethelaw15.CachePlays': WHATEVER THE INPUT: true; the input reads as it did. -/
def cachePlaysSpec : ChangeSpec := { name := "cachePlays", fn := fun _ => fun
  | [d1, d2] => { results := [.lit (.bool true)], args := [d1, d2] }
  | _ => none }
def cachePlaysRow : OpenClaim := { program := "ytoenkkbcpafanaa", sum := "a7f4291d148892058af1a1f4c8bb70b782d4541ab47d205f241ca3460f39e140", func := "lethe/lethelaw15.CachePlays", spec := "cachePlays", unfollowed := true, recurses := true, apart := false }
def CachePlaysSaid : Prop := cachePlaysRow.holds Try.pinned (OpenSpec.ofChange cachePlaysSpec)

/-- ITS FALSE NEIGHBOUR: 'it returns false'. Refute it at one input. -/
def cachePlaysWrong : ChangeSpec := { name := "cachePlays", fn := fun _ => fun
  | [d1, d2] => { results := [.lit (.bool false)], args := [d1, d2] }
  | _ => none }
def CachePlaysWrongFalsely : Prop := cachePlaysRow.holds Try.pinned (OpenSpec.ofChange cachePlaysWrong)

/-- 'lethelaw15.CacheTrue': WHATEVER THE INPUT: true; the input reads as it did. -/
def cacheTrueSpec : ChangeSpec := { name := "cacheTrue", fn := fun _ => fun
  | [d1, d2] => { results := [.lit (.bool true)], args := [d1, d2] }
  | _ => none }
def cacheTrueRow : OpenClaim := { program := "ytoenkkbcpafanaa", sum := "a7f4291d148892058af1a1f4c8bb70b782d4541ab47d205f241ca3460f39e140", func := "lethe/lethelaw15.CacheTrue", spec := "cacheTrue", unfollowed := true, recurses := true, apart := false }
def CacheTrueSaid : Prop := cacheTrueRow.holds Try.pinned (OpenSpec.ofChange cacheTrueSpec)

/-- ITS FALSE NEIGHBOUR: 'it returns false'. Refute it at one input. -/
def cacheTrueWrong : ChangeSpec := { name := "cacheTrue", fn := fun _ => fun
  | [d1, d2] => { results := [.lit (.bool false)], args := [d1, d2] }
  | _ => none }
def CacheTrueWrongFalsely : Prop := cacheTrueRow.holds Try.pinned (OpenSpec.ofChange cacheTrueWrong)

/-- 'lethelaw16.PagesMade': WHATEVER THE INPUT: true; the input reads as it did. -/
def pagesMadeSpec : ChangeSpec := { name := "pagesMade", fn := fun _ => fun
  | [d1, d2] => { results := [.lit (.bool true)], args := [d1, d2] }
  | _ => none }
def pagesMadeRow : OpenClaim := { program := "ytoenkkbcpafanaa", sum := "a7f4291d148892058af1a1f4c8bb70b782d4541ab47d205f241ca3460f39e140", func := "lethe/lethelaw16.PagesMade", spec := "pagesMade", apart := false }
def PagesMadeSaid : Prop := pagesMadeRow.holds Try.pinned (OpenSpec.ofChange pagesMadeSpec)

/-- ITS FALSE NEIGHBOUR: 'it returns false'. Refute it at one input. -/
def pagesMadeWrong : ChangeSpec := { name := "pagesMade", fn := fun _ => fun
  | [d1, d2] => { results := [.lit (.bool false)], args := [d1, d2] }
  | _ => none }
def PagesMadeWrongFalsely : Prop := pagesMadeRow.holds Try.pinned (OpenSpec.ofChange pagesMadeWrong)

/-- 'lethelaw16.PagesCuts': WHATEVER THE INPUT: true; the input reads as it did. -/
def pagesCutsSpec : ChangeSpec := { name := "pagesCuts", fn := fun _ => fun
  | [d1, d2, d3, d4] => { results := [.lit (.bool true)], args := [d1, d2, d3, d4] }
  | _ => none }
def pagesCutsRow : OpenClaim := { program := "ytoenkkbcpafanaa", sum := "a7f4291d148892058af1a1f4c8bb70b782d4541ab47d205f241ca3460f39e140", func := "lethe/lethelaw16.PagesCuts", spec := "pagesCuts", unfollowed := true, recurses := true, apart := false }
def PagesCutsSaid : Prop := pagesCutsRow.holds Try.pinned (OpenSpec.ofChange pagesCutsSpec)

/-- ITS FALSE NEIGHBOUR: 'it returns false'. Refute it at one input. -/
def pagesCutsWrong : ChangeSpec := { name := "pagesCuts", fn := fun _ => fun
  | [d1, d2, d3, d4] => { results := [.lit (.bool false)], args := [d1, d2, d3, d4] }
  | _ => none }
def PagesCutsWrongFalsely : Prop := pagesCutsRow.holds Try.pinned (OpenSpec.ofChange pagesCutsWrong)

/- THE SECOND FORM. 'bulk': how many values and letters a reading holds, each counted each time it is reached (what is shared counts as often as it is met; a slice's spare places count too). A statement '..UptoSaid' is the law's where the arguments, and the package variables that the reading takes, are together of bulk at most 1048576: NARROWER than '..Said'. Prove '..Said' where nothing that the law and all that it calls make is longer than what came in: it says more and counts as full. Else prove '..UptoSaid'. A law counts once. -/
mutual
def uptoBulk {H : Type} : DataW H → Nat
  | .lit (.string bytes) => bytes.length + 1
  | .lit _ => 1
  | .nil => 1
  | .ptr d => uptoBulk d + 1
  | .slice elems spare => uptoBulkAll elems + uptoBulkAll spare + 1
  | .agg parts => uptoBulkAll parts + 1
  | .iface _ d => uptoBulk d + 1
  | .map entries => uptoBulkEntries entries + 1
  | .held _ => 1
def uptoBulkAll {H : Type} : List (DataW H) → Nat
  | [] => 0
  | d :: r => uptoBulk d + uptoBulkAll r
def uptoBulkEntries {H : Type} : List (Lit × DataW H) → Nat
  | [] => 0
  | x :: r => uptoBulkEntry x + uptoBulkEntries r
def uptoBulkEntry {H : Type} : Lit × DataW H → Nat
  | (.string bytes, d) => bytes.length + uptoBulk d + 1
  | (_, d) => uptoBulk d + 1
 end
def uptoSmall : (H : Type) → List (DataW H) → Bool := fun _ ds => decide (uptoBulkAll ds ≤ 1048576)
def OpenSpec.upto (s : _root_.Go.ChangeSpec) : _root_.Go.OpenSpec := { _root_.Go.OpenSpec.ofChange s with cond := some uptoSmall }

/-- 'lethelaw07.TreeMap', WHERE WHAT IT READS IS OF BULK AT MOST 1048576: true; the input reads as it did. -/
def treeMapUptoRow : OpenClaim := { program := "ytoenkkbcpafanaa", sum := "a7f4291d148892058af1a1f4c8bb70b782d4541ab47d205f241ca3460f39e140", func := "lethe/lethelaw07.TreeMap", spec := "treeMap", inPlace := ["internal/bytealg.abigen_runtime_cmpstring", "slices.overlaps[lethe/api.Entry]"], unfollowed := true, recurses := true, apart := false, narrowed := true }
def TreeMapUptoSaid : Prop := treeMapUptoRow.holds Try.pinned (OpenSpec.upto treeMapSpec)

/-- 'lethelaw07.TreeShapes', WHERE WHAT IT READS IS OF BULK AT MOST 1048576: true; the input reads as it did. -/
def treeShapesUptoRow : OpenClaim := { program := "ytoenkkbcpafanaa", sum := "a7f4291d148892058af1a1f4c8bb70b782d4541ab47d205f241ca3460f39e140", func := "lethe/lethelaw07.TreeShapes", spec := "treeShapes", inPlace := ["internal/bytealg.abigen_runtime_cmpstring", "slices.overlaps[lethe/api.Entry]"], unfollowed := true, recurses := true, apart := false, narrowed := true }
def TreeShapesUptoSaid : Prop := treeShapesUptoRow.holds Try.pinned (OpenSpec.upto treeShapesSpec)

/-- 'lethelaw14.SegmentPlays', WHERE WHAT IT READS IS OF BULK AT MOST 1048576: true; the input reads as it did. -/
def segmentPlaysUptoRow : OpenClaim := { program := "ytoenkkbcpafanaa", sum := "a7f4291d148892058af1a1f4c8bb70b782d4541ab47d205f241ca3460f39e140", func := "lethe/lethelaw14.SegmentPlays", spec := "segmentPlays", unfollowed := true, recurses := true, apart := false, narrowed := true }
def SegmentPlaysUptoSaid : Prop := segmentPlaysUptoRow.holds Try.pinned (OpenSpec.upto segmentPlaysSpec)

/-- 'lethelaw15.CachePlays', WHERE WHAT IT READS IS OF BULK AT MOST 1048576: true; the input reads as it did. -/
def cachePlaysUptoRow : OpenClaim := { program := "ytoenkkbcpafanaa", sum := "a7f4291d148892058af1a1f4c8bb70b782d4541ab47d205f241ca3460f39e140", func := "lethe/lethelaw15.CachePlays", spec := "cachePlays", unfollowed := true, recurses := true, apart := false, narrowed := true }
def CachePlaysUptoSaid : Prop := cachePlaysUptoRow.holds Try.pinned (OpenSpec.upto cachePlaysSpec)

/-- 'lethelaw15.CacheTrue', WHERE WHAT IT READS IS OF BULK AT MOST 1048576: true; the input reads as it did. -/
def cacheTrueUptoRow : OpenClaim := { program := "ytoenkkbcpafanaa", sum := "a7f4291d148892058af1a1f4c8bb70b782d4541ab47d205f241ca3460f39e140", func := "lethe/lethelaw15.CacheTrue", spec := "cacheTrue", unfollowed := true, recurses := true, apart := false, narrowed := true }
def CacheTrueUptoSaid : Prop := cacheTrueUptoRow.holds Try.pinned (OpenSpec.upto cacheTrueSpec)

/-- 'lethelaw16.PagesMade', WHERE WHAT IT READS IS OF BULK AT MOST 1048576: true; the input reads as it did. -/
def pagesMadeUptoRow : OpenClaim := { program := "ytoenkkbcpafanaa", sum := "a7f4291d148892058af1a1f4c8bb70b782d4541ab47d205f241ca3460f39e140", func := "lethe/lethelaw16.PagesMade", spec := "pagesMade", apart := false, narrowed := true }
def PagesMadeUptoSaid : Prop := pagesMadeUptoRow.holds Try.pinned (OpenSpec.upto pagesMadeSpec)

/-- 'lethelaw16.PagesCuts', WHERE WHAT IT READS IS OF BULK AT MOST 1048576: true; the input reads as it did. -/
def pagesCutsUptoRow : OpenClaim := { program := "ytoenkkbcpafanaa", sum := "a7f4291d148892058af1a1f4c8bb70b782d4541ab47d205f241ca3460f39e140", func := "lethe/lethelaw16.PagesCuts", spec := "pagesCuts", unfollowed := true, recurses := true, apart := false, narrowed := true }
def PagesCutsUptoSaid : Prop := pagesCutsUptoRow.holds Try.pinned (OpenSpec.upto pagesCutsSpec)

end Rows
end Go.Proofs.Ytoenkkbcpafanaa
