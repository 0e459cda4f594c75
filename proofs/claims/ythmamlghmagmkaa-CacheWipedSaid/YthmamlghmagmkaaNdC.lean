/- What letheref06's inner, Right and Low answer. -/
import Derived.Test.YthmamlghmagmkaaNdB


namespace Go.Proofs.Ythmamlghmagmkaa.nodes
set_option linter.unusedVariables false
set_option linter.unusedSimpArgs false
open Go.RowKit Go.Proofs.Ythmamlghmagmkaa.base Go.Proofs.Ythmamlghmagmkaa.quotas Go.Proofs.Ythmamlghmagmkaa.vers

/-- a round's head of inner: so far nothing is wrong -/
def JHead6 (w : World) (a b c d e f h : Int) (lf : Bool) (ks : List K) (u u' : Value) (x : Value) (wr : World) : Prop :=
  ∃ j : Nat, j ≤ ks.length ∧ x = .int .i64 j ∧ Hid (kbad b none ks = kbad b (aheadK ks j) (ks.drop j)) ∧ Bn w a b c d e f h lf u u' wr

end Go.Proofs.Ythmamlghmagmkaa.nodes
