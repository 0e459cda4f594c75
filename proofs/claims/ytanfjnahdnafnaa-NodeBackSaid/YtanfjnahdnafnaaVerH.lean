/- add of the document: a version more. -/
import Derived.Test.YtanfjnahdnafnaaVerG


namespace Go.Proofs.Ytanfjnahdnafnaa.vers
set_option linter.unusedVariables false
set_option linter.unusedSimpArgs false
open Go.RowKit Go.Proofs.Ytanfjnahdnafnaa.base Go.Proofs.Ytanfjnahdnafnaa.quotas

/-- a new block that holds one version, as a slice of one -/
theorem Vs.one (w : World) (x : V) (hx : x.fits) : Vs (w.alloc (.cells #[.int .i64 x.n, .string x.v, .string x.t] 63)) (w.heap.size + 1) [x] (some ⟨w.heap.size, 0, none⟩) 1 := by
  refine ⟨Nat.le_refl _, by simp, (fun e => by cases e), ?_, fun y hy => by rw [List.mem_singleton.1 hy]; exact hx⟩
  exact (Blk.new w 63 #[.int .i64 x.n, .string x.v, .string x.t]).rd (xs := [.int .i64 x.n, .string x.v, .string x.t]) (by omega)

theorem OwnV.shape {lo : Nat} {w : World} {l : List V} {v : Value} (h : OwnV lo w l v) : ∃ A n c, v = .slice A n c ∧ Hid (n = l.length) := by
  obtain ⟨A, c, e, _⟩ := h.form
  exact ⟨A, _, c, e, lay rfl⟩
theorem take_snoc (l : List V) {j : Nat} (hj : j < l.length) : l.take (j + 1) = l.take j ++ [l[j]] := List.take_succ_eq_append_getElem hj
theorem drop_snoc (l : List V) {j dr : Nat} (hj : j < l.length) (hd : dr ≤ j) : (l.take (j + 1)).drop dr = (l.take j).drop dr ++ [l[j]] := by
  rw [take_snoc l hj, List.drop_append_of_le_length (by simp; omega)]
theorem drop_none (l : List V) {j dr : Nat} (hd : j ≤ dr) : (l.take j).drop dr = [] := List.drop_eq_nil_of_le (by simp; omega)

end Go.Proofs.Ytanfjnahdnafnaa.vers
