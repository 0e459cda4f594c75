/- Two references compared, by the model's own words. -/
import Derived.Test.YtoenkkbcpafanaaTrA
import Derived.Laws.StructEq


namespace Go.Proofs.Ytoenkkbcpafanaa.trees
set_option linter.unusedVariables false
set_option linter.unusedSimpArgs false
open Go.RowKit Go.Proofs.Ytoenkkbcpafanaa.base Go.Proofs.Ytoenkkbcpafanaa.vers Go.Proofs.Ytoenkkbcpafanaa.nodes

/-- a reference -/
structure R where
  k : Nat
  g : Int
  o : Int
  n : Int
deriving DecidableEq
abbrev R.val (r : R) : Value := .agg #[.int .u64 (r.k : Int), .int .i64 r.g, .int .i64 r.o, .int .i64 r.n]
def R.fits (r : R) : Prop := r.k < 18446744073709551616 ∧ i64 r.g ∧ i64 r.o ∧ i64 r.n
set_option maxRecDepth 100000 in
theorem ref_neq (r r' : R) (u : World) : (binOp .neq 27 r.val r'.val).run Try.prog u = .ok (.bool (!decide (r = r'))) u := by
  obtain ⟨k, g, o, n⟩ := r
  obtain ⟨k', g', o', n'⟩ := r'
  by_cases h1 : k = k'
  · have d1 : ((k : Int) == (k' : Int)) = true := by simp [h1]
    by_cases h2 : g = g'
    · have d2 : (g == g') = true := by simp [h2]
      by_cases h3 : o = o'
      · have d3 : (o == o') = true := by simp [h3]
        by_cases h4 : n = n'
        · have d4 : (n == n') = true := by simp [h4]
          have e : decide ((⟨k, g, o, n⟩ : R) = ⟨k', g', o', n'⟩) = true := by simp [h1, h2, h3, h4]
          rw [e]
          clear h1 h2 h3 h4 e
          go_simp
        · have d4 : (n == n') = false := by simp [h4]
          have e : decide ((⟨k, g, o, n⟩ : R) = ⟨k', g', o', n'⟩) = false := by simp [h4]
          rw [e]
          clear h1 h2 h3 h4 e
          go_simp
      · have d3 : (o == o') = false := by simp [h3]
        have e : decide ((⟨k, g, o, n⟩ : R) = ⟨k', g', o', n'⟩) = false := by simp [h3]
        rw [e]
        clear h1 h2 h3 e
        go_simp
    · have d2 : (g == g') = false := by simp [h2]
      have e : decide ((⟨k, g, o, n⟩ : R) = ⟨k', g', o', n'⟩) = false := by simp [h2]
      rw [e]
      clear h1 h2 e
      go_simp
  · have d1 : ((k : Int) == (k' : Int)) = false := by simp; omega
    have e : decide ((⟨k, g, o, n⟩ : R) = ⟨k', g', o', n'⟩) = false := by simp [h1]
    rw [e]
    clear h1 e
    go_simp
set_option maxRecDepth 100000 in
theorem ref_eql (r r' : R) (u : World) : (binOp .eql 27 r.val r'.val).run Try.prog u = .ok (.bool (decide (r = r'))) u := by
  obtain ⟨k, g, o, n⟩ := r
  obtain ⟨k', g', o', n'⟩ := r'
  by_cases h1 : k = k'
  · have d1 : ((k : Int) == (k' : Int)) = true := by simp [h1]
    by_cases h2 : g = g'
    · have d2 : (g == g') = true := by simp [h2]
      by_cases h3 : o = o'
      · have d3 : (o == o') = true := by simp [h3]
        by_cases h4 : n = n'
        · have d4 : (n == n') = true := by simp [h4]
          have e : decide ((⟨k, g, o, n⟩ : R) = ⟨k', g', o', n'⟩) = true := by simp [h1, h2, h3, h4]
          rw [e]
          clear h1 h2 h3 h4 e
          go_simp
        · have d4 : (n == n') = false := by simp [h4]
          have e : decide ((⟨k, g, o, n⟩ : R) = ⟨k', g', o', n'⟩) = false := by simp [h4]
          rw [e]
          clear h1 h2 h3 h4 e
          go_simp
      · have d3 : (o == o') = false := by simp [h3]
        have e : decide ((⟨k, g, o, n⟩ : R) = ⟨k', g', o', n'⟩) = false := by simp [h3]
        rw [e]
        clear h1 h2 h3 e
        go_simp
    · have d2 : (g == g') = false := by simp [h2]
      have e : decide ((⟨k, g, o, n⟩ : R) = ⟨k', g', o', n'⟩) = false := by simp [h2]
      rw [e]
      clear h1 h2 e
      go_simp
  · have d1 : ((k : Int) == (k' : Int)) = false := by simp; omega
    have e : decide ((⟨k, g, o, n⟩ : R) = ⟨k', g', o', n'⟩) = false := by simp [h1]
    rw [e]
    clear h1 e
    go_simp
end Go.Proofs.Ytoenkkbcpafanaa.trees
