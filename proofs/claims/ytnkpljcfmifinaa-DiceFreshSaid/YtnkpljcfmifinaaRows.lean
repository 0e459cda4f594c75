/-
  No cell of these rows narrows 'for every input' (looked for: loops, veiled, ifaces, maps, wideKeys, modest, calm, conditions, laid).
  DERIVED. THE GIVEN ROWS OF THIS SEAT. 5 by the template 'for every input the law returns true; each argument reads behind the call as it read before'; 0 by the template 'total and deterministic' (their statements: YtnkpljcfmifinaaTotals.lean).
  GIVEN WITH THE SEED: the statements are not yours to turn. If you find one false, say at which input.
  Laid BY PROGRAM, IN A SANDBOX (cutbox-rows.mjs): the forced cells as the released guide's own fill.sh prints them over the translation 8855e56556a53b9c… (all of the seat's roots in one cut). By AI agents, Wed Nov 11 2026. No macro, syntax, notation, axiom, sorry.
-/
import Derived.Test.YtnkpljcfmifinaaChecked
import GoSem.Claim
import GoSem.ClaimJoined
import GoSem.ClaimMapViews
import Derived.JoinedTies
import Derived.KernelRfl
namespace Go.Proofs.Ytnkpljcfmifinaa
/- THE CELL 'sum', in the pinned program and in every row, IS THE sha256 OF THE DUMP (.gsa) THAT YtnkpljcfmifinaaProg.lean LOADS. Nothing in Lean hashes anything: it is a label: what it is worth is what the hold of that sum in a sandbox is worth. -/
noncomputable def Try.pinned : Pinned := { name := "ytnkpljcfmifinaa", sum := "8855e56556a53b9ce1a100379c772966de2ecc30d4b58447f2427345140397c5", checked := Try.checked }
namespace Rows
def none {H : Type} : Left H := { results := [], args := [] }

/-- 'lethelaw01.DicePlays': WHATEVER THE INPUT: true; the input reads as it did. -/
def dicePlaysSpec : ChangeSpec := { name := "dicePlays", fn := fun _ => fun
  | [d1, d2] => { results := [.lit (.bool true)], args := [d1, d2] }
  | _ => none }
def dicePlaysRow : OpenClaim := { program := "ytnkpljcfmifinaa", sum := "8855e56556a53b9ce1a100379c772966de2ecc30d4b58447f2427345140397c5", func := "lethe/lethelaw01.DicePlays", spec := "dicePlays", apart := false }
def DicePlaysSaid : Prop := dicePlaysRow.holds Try.pinned (OpenSpec.ofChange dicePlaysSpec)

/-- ITS FALSE NEIGHBOUR: 'it returns false'. Refute it at one input. -/
def dicePlaysWrong : ChangeSpec := { name := "dicePlays", fn := fun _ => fun
  | [d1, d2] => { results := [.lit (.bool false)], args := [d1, d2] }
  | _ => none }
def DicePlaysWrongFalsely : Prop := dicePlaysRow.holds Try.pinned (OpenSpec.ofChange dicePlaysWrong)

/-- 'lethelaw01.DiceFresh': WHATEVER THE INPUT: true; the input reads as it did. -/
def diceFreshSpec : ChangeSpec := { name := "diceFresh", fn := fun _ => fun
  | [d] => { results := [.lit (.bool true)], args := [d] }
  | _ => none }
def diceFreshRow : OpenClaim := { program := "ytnkpljcfmifinaa", sum := "8855e56556a53b9ce1a100379c772966de2ecc30d4b58447f2427345140397c5", func := "lethe/lethelaw01.DiceFresh", spec := "diceFresh", recurses := true, apart := false }
def DiceFreshSaid : Prop := diceFreshRow.holds Try.pinned (OpenSpec.ofChange diceFreshSpec)

/-- ITS FALSE NEIGHBOUR: 'it returns false'. Refute it at one input. -/
def diceFreshWrong : ChangeSpec := { name := "diceFresh", fn := fun _ => fun
  | [d] => { results := [.lit (.bool false)], args := [d] }
  | _ => none }
def DiceFreshWrongFalsely : Prop := diceFreshRow.holds Try.pinned (OpenSpec.ofChange diceFreshWrong)

/-- 'lethelaw01.DiceNever': WHATEVER THE INPUT: true; the input reads as it did. -/
def diceNeverSpec : ChangeSpec := { name := "diceNever", fn := fun _ => fun
  | [d1, d2] => { results := [.lit (.bool true)], args := [d1, d2] }
  | _ => none }
def diceNeverRow : OpenClaim := { program := "ytnkpljcfmifinaa", sum := "8855e56556a53b9ce1a100379c772966de2ecc30d4b58447f2427345140397c5", func := "lethe/lethelaw01.DiceNever", spec := "diceNever", recurses := true, apart := false }
def DiceNeverSaid : Prop := diceNeverRow.holds Try.pinned (OpenSpec.ofChange diceNeverSpec)

/-- ITS FALSE NEIGHBOUR: 'it returns false'. Refute it at one input. -/
def diceNeverWrong : ChangeSpec := { name := "diceNever", fn := fun _ => fun
  | [d1, d2] => { results := [.lit (.bool false)], args := [d1, d2] }
  | _ => none }
def DiceNeverWrongFalsely : Prop := diceNeverRow.holds Try.pinned (OpenSpec.ofChange diceNeverWrong)

/-- 'lethelaw01.DiceLong': WHATEVER THE INPUT: true; the input reads as it did. -/
def diceLongSpec : ChangeSpec := { name := "diceLong", fn := fun _ => fun
  | [d] => { results := [.lit (.bool true)], args := [d] }
  | _ => none }
def diceLongRow : OpenClaim := { program := "ytnkpljcfmifinaa", sum := "8855e56556a53b9ce1a100379c772966de2ecc30d4b58447f2427345140397c5", func := "lethe/lethelaw01.DiceLong", spec := "diceLong", apart := false }
def DiceLongSaid : Prop := diceLongRow.holds Try.pinned (OpenSpec.ofChange diceLongSpec)

/-- ITS FALSE NEIGHBOUR: 'it returns false'. Refute it at one input. -/
def diceLongWrong : ChangeSpec := { name := "diceLong", fn := fun _ => fun
  | [d] => { results := [.lit (.bool false)], args := [d] }
  | _ => none }
def DiceLongWrongFalsely : Prop := diceLongRow.holds Try.pinned (OpenSpec.ofChange diceLongWrong)

/-- 'lethelaw01.DiceOwn': WHATEVER THE INPUT: true; the input reads as it did. -/
def diceOwnSpec : ChangeSpec := { name := "diceOwn", fn := fun _ => fun
  | [d] => { results := [.lit (.bool true)], args := [d] }
  | _ => none }
def diceOwnRow : OpenClaim := { program := "ytnkpljcfmifinaa", sum := "8855e56556a53b9ce1a100379c772966de2ecc30d4b58447f2427345140397c5", func := "lethe/lethelaw01.DiceOwn", spec := "diceOwn", apart := false }
def DiceOwnSaid : Prop := diceOwnRow.holds Try.pinned (OpenSpec.ofChange diceOwnSpec)

/-- ITS FALSE NEIGHBOUR: 'it returns false'. Refute it at one input. -/
def diceOwnWrong : ChangeSpec := { name := "diceOwn", fn := fun _ => fun
  | [d] => { results := [.lit (.bool false)], args := [d] }
  | _ => none }
def DiceOwnWrongFalsely : Prop := diceOwnRow.holds Try.pinned (OpenSpec.ofChange diceOwnWrong)

/- THE SECOND FORM. 'bulk': how many values and letters a reading holds, each counted each time it is reached (what is shared counts as often as it is met; a slice's spare places count too). A statement '..UptoSaid' is the law's where the arguments, and the package variables that the reading takes, are together of bulk at most 1048576: NARROWER than '..Said'. Prove '..Said' where nothing that the law and all that it calls make is longer than what came in: it says more and counts as full. Else prove '..UptoSaid'. A law counts once. -/
mutual
def uptoBulk {H : Type} : DataW H → Nat
  | .lit (.string bytes) => bytes.length + 1
  | .lit _ => 1
  | .nil => 1
  | .ptr d => uptoBulk d + 1
  | .slice elems spare => uptoBulkAll elems + uptoBulkAll spare + 1
  | .agg parts => uptoBulkAll parts + 1
  | .iface _ d => uptoBulk d + 1
  | .map entries => uptoBulkEntries entries + 1
  | .held _ => 1
def uptoBulkAll {H : Type} : List (DataW H) → Nat
  | [] => 0
  | d :: r => uptoBulk d + uptoBulkAll r
def uptoBulkEntries {H : Type} : List (Lit × DataW H) → Nat
  | [] => 0
  | x :: r => uptoBulkEntry x + uptoBulkEntries r
def uptoBulkEntry {H : Type} : Lit × DataW H → Nat
  | (.string bytes, d) => bytes.length + uptoBulk d + 1
  | (_, d) => uptoBulk d + 1
 end
def uptoSmall : (H : Type) → List (DataW H) → Bool := fun _ ds => decide (uptoBulkAll ds ≤ 1048576)
def OpenSpec.upto (s : _root_.Go.ChangeSpec) : _root_.Go.OpenSpec := { _root_.Go.OpenSpec.ofChange s with cond := some uptoSmall }

/-- 'lethelaw01.DicePlays', WHERE WHAT IT READS IS OF BULK AT MOST 1048576: true; the input reads as it did. -/
def dicePlaysUptoRow : OpenClaim := { program := "ytnkpljcfmifinaa", sum := "8855e56556a53b9ce1a100379c772966de2ecc30d4b58447f2427345140397c5", func := "lethe/lethelaw01.DicePlays", spec := "dicePlays", apart := false, narrowed := true }
def DicePlaysUptoSaid : Prop := dicePlaysUptoRow.holds Try.pinned (OpenSpec.upto dicePlaysSpec)

/-- 'lethelaw01.DiceFresh', WHERE WHAT IT READS IS OF BULK AT MOST 1048576: true; the input reads as it did. -/
def diceFreshUptoRow : OpenClaim := { program := "ytnkpljcfmifinaa", sum := "8855e56556a53b9ce1a100379c772966de2ecc30d4b58447f2427345140397c5", func := "lethe/lethelaw01.DiceFresh", spec := "diceFresh", recurses := true, apart := false, narrowed := true }
def DiceFreshUptoSaid : Prop := diceFreshUptoRow.holds Try.pinned (OpenSpec.upto diceFreshSpec)

/-- 'lethelaw01.DiceNever', WHERE WHAT IT READS IS OF BULK AT MOST 1048576: true; the input reads as it did. -/
def diceNeverUptoRow : OpenClaim := { program := "ytnkpljcfmifinaa", sum := "8855e56556a53b9ce1a100379c772966de2ecc30d4b58447f2427345140397c5", func := "lethe/lethelaw01.DiceNever", spec := "diceNever", recurses := true, apart := false, narrowed := true }
def DiceNeverUptoSaid : Prop := diceNeverUptoRow.holds Try.pinned (OpenSpec.upto diceNeverSpec)

/-- 'lethelaw01.DiceLong', WHERE WHAT IT READS IS OF BULK AT MOST 1048576: true; the input reads as it did. -/
def diceLongUptoRow : OpenClaim := { program := "ytnkpljcfmifinaa", sum := "8855e56556a53b9ce1a100379c772966de2ecc30d4b58447f2427345140397c5", func := "lethe/lethelaw01.DiceLong", spec := "diceLong", apart := false, narrowed := true }
def DiceLongUptoSaid : Prop := diceLongUptoRow.holds Try.pinned (OpenSpec.upto diceLongSpec)

/-- 'lethelaw01.DiceOwn', WHERE WHAT IT READS IS OF BULK AT MOST 1048576: true; the input reads as it did. -/
def diceOwnUptoRow : OpenClaim := { program := "ytnkpljcfmifinaa", sum := "8855e56556a53b9ce1a100379c772966de2ecc30d4b58447f2427345140397c5", func := "lethe/lethelaw01.DiceOwn", spec := "diceOwn", apart := false, narrowed := true }
def DiceOwnUptoSaid : Prop := diceOwnUptoRow.holds Try.pinned (OpenSpec.upto diceOwnSpec)

end Rows
end Go.Proofs.Ytnkpljcfmifinaa
