/- add, Put and Over of the document, of anything. -/
import Derived.Test.YtanfjnahdnafnaaVerH


namespace Go.Proofs.Ytanfjnahdnafnaa.vers
set_option linter.unusedVariables false
set_option linter.unusedSimpArgs false
open Go.RowKit Go.Proofs.Ytanfjnahdnafnaa.base Go.Proofs.Ytanfjnahdnafnaa.quotas

/-- behind versions in which nothing is wrong the last number is right -/
theorem vbad_last (c d : Int) : ∀ (l : List V) (p : Int), vbad c d p l = 0 → 0 ≤ p → ∀ x, l.getLast? = some x → 0 ≤ x.n ∧ x.n ≤ 1073741824
  | [], _, _, _, x, hx => by simp at hx
  | [y], p, h, hp, x, hx => by
    simp at hx
    subst hx
    unfold vbad at h
    split at h
    · omega
    · rename_i h1; omega
  | y :: z :: l, p, h, hp, x, hx => by
    unfold vbad at h
    split at h
    · omega
    · rename_i h1
      split at h
      · omega
      · exact vbad_last c d (z :: l) y.n h (by omega) x (by rw [List.getLast?_cons_cons] at hx; exact hx)
theorem nbad_last {a b c d e f h : Int} {s : ByteArray} {l : List V} (hz : nbad a b c d e f h s l = 0) {k : Nat} (hk : l.length = k + 1) : 0 ≤ l[k].n ∧ l[k].n ≤ 1073741824 := by
  have hok := (nbad_zero hz).1
  rw [nbad_yes hok] at hz
  have hv : vbad c d 0 l = 0 := by
    split at hz
    · omega
    · split at hz
      · omega
      · split at hz
        · omega
        · exact hz
  refine vbad_last c d l 0 hv (by omega) l[k] ?_
  rw [List.getLast?_eq_getElem?, show l.length - 1 = k by omega, List.getElem?_eq_getElem (by omega)]

theorem HV.shape {lo : Nat} {w : World} {l : List V} {u : Value} (h : HV lo w l u) : ∃ A n c, u = .slice A n c ∧ Hid (n = l.length) := by
  obtain ⟨A, c, e, _⟩ := h
  exact ⟨A, _, c, e, lay rfl⟩
/-- what a caller's own box of an answer leaves of it -/
theorem HV.four {lo : Nat} {w : World} {l : List V} {u : Value} (h : HV lo w l u) {g : Nat} (hg : g < lo) (x y z q : Value) : HV lo ((((w.setCell ⟨g, 0, none⟩ x).setCell ⟨g, 1, none⟩ y).setCell ⟨g, 2, none⟩ z).setCell ⟨g, 3, none⟩ q) l u :=
  (((h.setCell hg x).setCell hg y).setCell hg z).setCell hg q

end Go.Proofs.Ytanfjnahdnafnaa.vers
