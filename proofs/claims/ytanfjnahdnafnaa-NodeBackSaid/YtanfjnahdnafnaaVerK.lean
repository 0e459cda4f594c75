/- The walk of EntryPuts, out of what is asked of the program's own calls. -/
import Derived.Test.YtanfjnahdnafnaaVerJ


namespace Go.Proofs.Ytanfjnahdnafnaa.vers
set_option linter.unusedVariables false
set_option linter.unusedSimpArgs false
open Go.RowKit Go.Proofs.Ytanfjnahdnafnaa.base Go.Proofs.Ytanfjnahdnafnaa.quotas

/-- how the program's own Put answers -/
def PutAns (w : World) (r : Ad) (x : Ending) (w' : World) : Prop :=
  ∃ u u', x = .returned (.tuple #[.agg #[.string r.s, u], u', .int .i64 r.bad]) ∧ Below w.heap.size w w' ∧ HV w.heap.size w' r.k u ∧ HV w.heap.size w' r.d u'
theorem HV.next {lo : Nat} {w w' : World} {l : List V} {u : Value} (h : HV lo w l u) (hb : Below w.heap.size w w') : HV lo w' l u := h.move hb.size fun p _ hp => hb.cell hp
theorem HV.alloc {lo : Nat} {w : World} {l : List V} {u : Value} (h : HV lo w l u) (ob : Obj) : HV lo (w.alloc ob) l u := h.next ((Below.refl _ _).alloc (Nat.le_refl _) _)
theorem HV.vs {lo : Nat} {w : World} {l : List V} {A : Option Addr} {n c : Nat} (h : HV lo w l (.slice A n c)) : Vs w w.heap.size l A c := by
  obtain ⟨A', c', e, hv, _⟩ := h
  cases e
  exact hv
/-- a box of an answer of add -/
def ABox (w : World) (g : Nat) (s : ByteArray) (u u' : Value) (n : Int) : Prop := (w.cell? ⟨g, 0, none⟩ = some (.string s) ∧ w.cell? ⟨g, 1, none⟩ = some u ∧ w.cell? ⟨g, 2, none⟩ = some u' ∧ w.cell? ⟨g, 3, none⟩ = some (.int .i64 n)) ∧ g < w.heap.size
theorem ABox.next {w w' : World} {g : Nat} {s : ByteArray} {u u' : Value} {n : Int} (h : ABox w g s u u' n) (hb : Below w.heap.size w w') : ABox w' g s u u' n := by
  obtain ⟨⟨a, b, c, e⟩, d⟩ := h
  have hs := hb.size
  refine ⟨⟨?_, ?_, ?_, ?_⟩, by omega⟩ <;> (rw [hb.cell (by simpa using d)]; assumption)
theorem ABox.alloc {w : World} {g : Nat} {s : ByteArray} {u u' : Value} {n : Int} (h : ABox w g s u u' n) (ob : Obj) : ABox (w.alloc ob) g s u u' n := h.next ((Below.refl _ _).alloc (Nat.le_refl _) _)
theorem seq {w w1 w2 : World} (h : Below w.heap.size w w1) (k : Below w1.heap.size w1 w2) : Below w.heap.size w w2 := h.trans (k.mono h.size)
theorem dec_true {l : List V} : decide (l = l) = true := decide_eq_true rfl
theorem dec_both {s : ByteArray} {l : List V} : (decide (s = s) && decide (l = l)) = true := by rw [decide_eq_true rfl, decide_eq_true rfl]; rfl

end Go.Proofs.Ytanfjnahdnafnaa.vers
