/- What letheref06's RefRight, leaf, inner, Right and Low answer. -/
import Derived.Test.YthmamlghmagmkaaNdA
import Derived.BigQuiet
import Derived.Deep.QuietTactic


namespace Go.Proofs.Ythmamlghmagmkaa.nodes
set_option linter.unusedVariables false
set_option linter.unusedSimpArgs false
open Go.RowKit Go.Proofs.Ythmamlghmagmkaa.base Go.Proofs.Ythmamlghmagmkaa.quotas Go.Proofs.Ythmamlghmagmkaa.vers

/-- behind a call's beginning: its own boxes hold the quota and the node -/
def Bn (w : World) (a b c d e f h : Int) (lf : Bool) (u u' : Value) (wr : World) : Prop :=
  In7 w w.heap.size a b c d e f h wr ∧ (wr.cell? ⟨w.heap.size + 1, 0, none⟩ = some (.bool lf) ∧ wr.cell? ⟨w.heap.size + 1, 1, none⟩ = some u ∧ wr.cell? ⟨w.heap.size + 1, 2, none⟩ = some u') ∧ w.heap.size + 1 < wr.heap.size
theorem Bn.next {w wr w' : World} {a b c d e f h : Int} {lf : Bool} {u u' : Value} (h1 : Bn w a b c d e f h lf u u' wr) (hb : Below wr.heap.size wr w') : Bn w a b c d e f h lf u u' w' := by
  obtain ⟨h1, ⟨h2, h3, h5⟩, h4⟩ := h1
  have hs := hb.size
  exact ⟨h1.next hb, ⟨by rw [hb.cell (by simpa using h4)]; exact h2, by rw [hb.cell (by simpa using h4)]; exact h3, by rw [hb.cell (by simpa using h4)]; exact h5⟩, by omega⟩
theorem Bn.alloc {w wr : World} {a b c d e f h : Int} {lf : Bool} {u u' : Value} (h1 : Bn w a b c d e f h lf u u' wr) (ob : Obj) : Bn w a b c d e f h lf u u' (wr.alloc ob) := h1.next ((Below.refl _ _).alloc (Nat.le_refl _) _)
theorem Bn.drewN {w wr : World} {a b c d e f h : Int} {lf : Bool} {u u' : Value} (h1 : Bn w a b c d e f h lf u u' wr) (n : Nat) : Bn w a b c d e f h lf u u' (wr.drewN n) := h1.next ⟨rfl, rfl, rfl, Nat.le_refl _, fun _ _ => rfl⟩
theorem Bn.drew {w wr : World} {a b c d e f h : Int} {lf : Bool} {u u' : Value} (h1 : Bn w a b c d e f h lf u u' wr) : Bn w a b c d e f h lf u u' wr.drew := h1.next ((Below.refl _ _).drew)
theorem Bn.below {w wr : World} {a b c d e f h : Int} {lf : Bool} {u u' : Value} (h1 : Bn w a b c d e f h lf u u' wr) : Below w.heap.size w wr := h1.1.2.2.2
theorem _root_.Go.Proofs.Ythmamlghmagmkaa.vers.Vs.now {w wr : World} {B : Nat} {l : List V} {A : Option Addr} {c : Nat} (h : Vs w B l A c) (hb : Below B w wr) (hB : B ≤ wr.heap.size) : Vs wr wr.heap.size l A c := (h.below hb).more hB

/-- a round's head of leaf: so far nothing is wrong -/
def LHead (w : World) (a b c d e f h : Int) (lf : Bool) (es : List E) (u u' : Value) (x : Value) (wr : World) : Prop :=
  ∃ j : Nat, j ≤ es.length ∧ x = .int .i64 j ∧ Hid (ebad a b c d e f h none es = ebad a b c d e f h (aheadE es j) (es.drop j)) ∧ Bn w a b c d e f h lf u u' wr

end Go.Proofs.Ythmamlghmagmkaa.nodes
