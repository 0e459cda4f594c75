/- What is put in one by one is what is sorted, each once; the walk of the law TermAtoms where the atoms are not too many. -/
import Derived.Test.YtjlglfjikfpboaaGathered
import Derived.Test.YtjlglfjikfpboaaFin


namespace Go.Proofs.Ytjlglfjikfpboaa.texts
set_option linter.unusedVariables false
set_option linter.unusedSimpArgs false
open Go.RowKit Go.Proofs.Ytjlglfjikfpboaa.base Go.Proofs.Ytjlglfjikfpboaa.tm Go.Proofs.Ytjlglfjikfpboaa.lies Go.Proofs.Ytjlglfjikfpboaa.rights

theorem allOf_size : ∀ l : List T, (allOf l).length ≤ sizeL l
  | [] => by simp [allOf]
  | t :: l => by
    have h1 := allOf_size l
    have h2 := atoms_len t
    simp only [allOf, sizeL, List.length_append]
    by_cases h : t.right = 0
    · rw [if_pos h]; omega
    · rw [if_neg h]; simp; omega
theorem lt_of_not {a b : List UInt8} (h1 : ¬ a = b) (h2 : ¬ a < b) : b < a := by
  rw [← List.not_le]
  intro hle
  exact h1 (List.le_antisymm hle (List.not_lt.1 h2))
theorem insD_props (s : List UInt8) (l : List (List UInt8)) (h : l.Pairwise (· < ·)) : (insD s l false).Pairwise (· < ·) ∧ ∀ x, x ∈ insD s l false ↔ x = s ∨ x ∈ l := by
  induction l with
  | nil => exact ⟨by simp [insD], fun x => by simp [insD]⟩
  | cons y r ih =>
    obtain ⟨h1, h2⟩ := List.pairwise_cons.1 h
    obtain ⟨i1, i2⟩ := ih h2
    simp only [insD, insD_done, Bool.false_eq_true, if_false]
    by_cases e : s = y
    · rw [if_pos e]
      refine ⟨h, fun x => ?_⟩
      rw [e]; simp
    · rw [if_neg e]
      by_cases hl : s < y
      · rw [if_pos hl]
        refine ⟨List.pairwise_cons.2 ⟨fun a ha => ?_, h⟩, fun x => by simp⟩
        rcases List.mem_cons.1 ha with rfl | ha
        · exact hl
        · exact List.lt_trans hl (h1 a ha)
      · rw [if_neg hl]
        refine ⟨List.pairwise_cons.2 ⟨fun a ha => ?_, i1⟩, fun x => ?_⟩
        · rcases (i2 a).1 ha with rfl | ha
          · exact lt_of_not e hl
          · exact h1 a ha
        · rw [List.mem_cons, i2, List.mem_cons]
          constructor
          · rintro (h | h | h)
            · exact .inr (.inl h)
            · exact .inl h
            · exact .inr (.inr h)
          · rintro (h | h | h)
            · exact .inr (.inl h)
            · exact .inl h
            · exact .inr (.inr h)
theorem putAll_props (l : List ByteArray) : ∀ ts : List (List UInt8), ts.Pairwise (· < ·) → (putAll ts l).Pairwise (· < ·) ∧ ∀ x, x ∈ putAll ts l ↔ x ∈ ts ∨ x ∈ brs l := by
  induction l with
  | nil => intro ts h; exact ⟨h, fun x => by simp [putAll, brs]⟩
  | cons s l ih =>
    intro ts h
    obtain ⟨h1, h2⟩ := insD_props s.data.toList ts h
    obtain ⟨h3, h4⟩ := ih _ h1
    refine ⟨h3, fun x => ?_⟩
    show x ∈ putAll (insD s.data.toList ts false) l ↔ _
    rw [h4, h2]
    show _ ↔ x ∈ ts ∨ x ∈ s.data.toList :: brs l
    rw [List.mem_cons]
    constructor
    · rintro ((h | h) | h)
      · exact .inr (.inl h)
      · exact .inl h
      · exact .inr (.inr h)
    · rintro (h | h | h)
      · exact .inl (.inr h)
      · exact .inl (.inl h)
      · exact .inr h
theorem rising_eq : ∀ a b : List (List UInt8), a.Pairwise (· < ·) → b.Pairwise (· < ·) → (∀ x, x ∈ a ↔ x ∈ b) → a = b
  | [], [], _, _, _ => rfl
  | [], y :: b, _, _, h => absurd ((h y).2 (List.mem_cons_self ..)) (by simp)
  | x :: a, [], _, _, h => absurd ((h x).1 (List.mem_cons_self ..)) (by simp)
  | x :: a, y :: b, ha, hb, h => by
    obtain ⟨a1, a2⟩ := List.pairwise_cons.1 ha
    obtain ⟨b1, b2⟩ := List.pairwise_cons.1 hb
    have hxy : x = y := by
      rcases List.mem_cons.1 ((h x).1 (List.mem_cons_self ..)) with e | e
      · exact e
      · rcases List.mem_cons.1 ((h y).2 (List.mem_cons_self ..)) with e' | e'
        · exact e'.symm
        · exact absurd (List.lt_trans (b1 x e) (a1 y e')) (List.lt_irrefl _)
    subst hxy
    have : a = b := rising_eq a b a2 b2 fun z => by
      constructor
      · intro hz
        rcases List.mem_cons.1 ((h z).1 (List.mem_cons_of_mem _ hz)) with e | e
        · subst e; exact absurd (a1 z hz) (List.lt_irrefl _)
        · exact e
      · intro hz
        rcases List.mem_cons.1 ((h z).2 (List.mem_cons_of_mem _ hz)) with e | e
        · subst e; exact absurd (b1 z hz) (List.lt_irrefl _)
        · exact e
    rw [this]
theorem putAll_fin (l : List ByteArray) : putAll [] l = fin l := by
  obtain ⟨h1, h2⟩ := putAll_props l [] (by simp)
  obtain ⟨h3, h4⟩ := fin_props l
  exact rising_eq _ _ h1 h3 fun x => by rw [h2, h4]; simp

end Go.Proofs.Ytjlglfjikfpboaa.texts
