/- Sorted and each once: what stands in it, and in what order. -/
import Derived.Test.YtjlglfjikfpboaaAtoms


namespace Go.Proofs.Ytjlglfjikfpboaa.texts
set_option linter.unusedVariables false
set_option linter.unusedSimpArgs false
open Go.Lib

theorem compact_aux (zs : List (List UInt8)) (hs : ∀ i k, i ≤ k → k < zs.length → zs.toArray[i]! ≤ zs.toArray[k]!) (m : Nat) (hm : m ≤ zs.length) :
    (compactUpTo zs.toArray m).Pairwise (· < ·) ∧ ∀ x, x ∈ compactUpTo zs.toArray m ↔ ∃ j, j < m ∧ zs.toArray[j]! = x := by
  induction m with
  | zero => exact ⟨by simp [compactUpTo], fun x => by simp [compactUpTo]⟩
  | succ m ih =>
    obtain ⟨h1, h2⟩ := ih (by omega)
    rw [compactUpTo_succ]
    by_cases hk : keeps zs.toArray m = true
    · rw [if_pos hk]
      refine ⟨List.pairwise_append.2 ⟨h1, by simp, fun a ha b hb => ?_⟩, fun x => ?_⟩
      · simp only [List.mem_singleton] at hb
        subst hb
        obtain ⟨j, hj, rfl⟩ := (h2 a).1 ha
        have hne : zs.toArray[m]! ≠ zs.toArray[m - 1]! := by
          simp only [keeps, decide_eq_true_eq] at hk
          rcases hk with hk | hk
          · omega
          · exact hk
        rw [← List.not_le]
        intro hle
        exact hne (List.le_antisymm (List.le_trans hle (hs j (m - 1) (by omega) (by omega))) (hs (m - 1) m (by omega) (by omega)))
      · rw [List.mem_append, h2, List.mem_singleton]
        constructor
        · rintro (⟨j, hj, e⟩ | e)
          · exact ⟨j, by omega, e⟩
          · exact ⟨m, by omega, e.symm⟩
        · rintro ⟨j, hj, e⟩
          by_cases hjm : j = m
          · subst hjm; exact .inr e.symm
          · exact .inl ⟨j, by omega, e⟩
    · rw [if_neg hk, List.append_nil]
      refine ⟨h1, fun x => ?_⟩
      rw [h2]
      have hk' : m ≠ 0 ∧ zs.toArray[m]! = zs.toArray[m - 1]! := by
        simp only [keeps, decide_eq_true_eq, not_or] at hk
        exact ⟨hk.1, Classical.not_not.1 hk.2⟩
      constructor
      · rintro ⟨j, hj, e⟩
        exact ⟨j, by omega, e⟩
      · rintro ⟨j, hj, e⟩
        by_cases hjm : j = m
        · subst hjm; exact ⟨j - 1, by omega, hk'.2 ▸ e⟩
        · exact ⟨j, by omega, e⟩

theorem get_bang (zs : List (List UInt8)) (i : Nat) (h : i < zs.length) : zs.toArray[i]! = zs[i] := by
  rw [getElem!_pos zs.toArray i (by simpa using h)]; simp

theorem compact_props (zs : List (List UInt8)) (h : zs.Pairwise (· ≤ ·)) : (compact zs).Pairwise (· < ·) ∧ ∀ x, x ∈ compact zs ↔ x ∈ zs := by
  have hs : ∀ i k, i ≤ k → k < zs.length → zs.toArray[i]! ≤ zs.toArray[k]! := by
    intro i k hik hk
    rw [get_bang zs i (by omega), get_bang zs k hk]
    by_cases e : i = k
    · subst e; exact List.le_refl _
    · exact List.pairwise_iff_getElem.1 h i k (by omega) hk (by omega)
  obtain ⟨h1, h2⟩ := compact_aux zs hs zs.length (Nat.le_refl _)
  refine ⟨h1, fun x => (h2 x).trans ⟨?_, fun hx => ?_⟩⟩
  · rintro ⟨j, hj, e⟩
    rw [get_bang zs j hj] at e
    rw [← e]; exact List.getElem_mem hj
  · obtain ⟨j, hj, e⟩ := List.getElem_of_mem hx
    exact ⟨j, hj, by rw [get_bang zs j hj]; exact e⟩

theorem fin_props (l : List ByteArray) : (fin l).Pairwise (· < ·) ∧ ∀ x, x ∈ fin l ↔ x ∈ brs l := by
  have hp : (srt (brs l)).Pairwise (· ≤ ·) := by
    have := List.pairwise_mergeSort (le := fun x y : List UInt8 => decide (x ≤ y)) (fun a b c h1 h2 => by simp only [decide_eq_true_eq] at *; exact List.le_trans h1 h2) (fun a b => by simp only [Bool.or_eq_true, decide_eq_true_eq]; exact List.le_total a b) (brs l)
    exact this.imp fun h => of_decide_eq_true h
  obtain ⟨h1, h2⟩ := compact_props _ hp
  exact ⟨h1, fun x => (h2 x).trans (by unfold srt; exact List.mem_mergeSort)⟩
theorem fin_lt (l : List ByteArray) (i : Nat) (h : i + 1 < (fin l).length) : (fin l)[i] < (fin l)[i + 1] :=
  List.pairwise_iff_getElem.1 (fin_props l).1 i (i + 1) (by omega) h (by omega)
theorem fin_mem_append {a b : List ByteArray} {x : List UInt8} : x ∈ fin (a ++ b) ↔ x ∈ fin a ∨ x ∈ fin b := by
  rw [(fin_props _).2, (fin_props _).2, (fin_props _).2]
  simp [brs, or_comm]
end Go.Proofs.Ytjlglfjikfpboaa.texts
