/- Plain facts on heaps in a row of numbers: nothing of the program. -/
import Derived.Test.YtnkpljcfmifinaaSwaps
namespace Go.Proofs.Ytnkpljcfmifinaa.swaps

def Child (p c : Nat) : Prop := c = 2 * p + 1 ∨ c = 2 * p + 2
/-- from place lo on each parent's number is no less than its children's, those below hi -/
def Heap (f lo hi : Nat) (d : Nat → Int) : Prop := ∀ p c, lo ≤ p → Child p c → c < hi → d (f + c) ≤ d (f + p)
/-- likewise, but for r's children, which are no greater than r's parent -/
def Sift (f lo hi r : Nat) (d : Nat → Int) : Prop :=
  lo ≤ r ∧ (∀ p c, lo ≤ p → Child p c → c < hi → p ≠ r → d (f + c) ≤ d (f + p)) ∧ ∀ p c, lo ≤ p → Child p r → Child r c → c < hi → d (f + c) ≤ d (f + p)

theorem Sift.of_heap {f lo hi : Nat} {d : Nat → Int} (h : Heap f (lo + 1) hi d) : Sift f lo hi lo d :=
  ⟨Nat.le_refl _, fun p c h1 h2 h3 h4 => h p c (by omega) h2 h3, fun p c h1 h2 => by unfold Child at h2; omega⟩
theorem Sift.leaf {f lo hi r : Nat} {d : Nat → Int} (h : Sift f lo hi r d) (hc : hi ≤ 2 * r + 1) : Heap f lo hi d := fun p c h1 h2 h3 =>
  h.2.1 p c h1 h2 h3 (fun e => by subst e; unfold Child at h2; omega)
theorem Sift.stop {f lo hi r ch : Nat} {d : Nat → Int} (h : Sift f lo hi r d) (hbest : ∀ c, Child r c → c < hi → d (f + c) ≤ d (f + ch)) (hle : d (f + ch) ≤ d (f + r)) : Heap f lo hi d := fun p c h1 h2 h3 => by
  by_cases e : p = r
  · subst e; have := hbest c h2 h3; omega
  · exact h.2.1 p c h1 h2 h3 e
theorem Sift.down {f lo hi r ch : Nat} {d : Nat → Int} (h : Sift f lo hi r d) (hch : Child r ch) (hlt : ch < hi) (hbest : ∀ c, Child r c → c < hi → d (f + c) ≤ d (f + ch)) (hle : d (f + r) ≤ d (f + ch)) :
    Sift f lo hi ch (swp d (f + r) (f + ch)) := by
  obtain ⟨h0, h1, h2⟩ := h
  have hrc : r < ch := by unfold Child at hch; omega
  refine ⟨by omega, fun p c k1 k2 k3 k4 => ?_, fun p c k1 k2 k3 k4 => ?_⟩
  · have hpc : p < c := by unfold Child at k2; omega
    unfold swp
    by_cases ep : p = r
    · subst ep
      rw [if_pos (c := f + p = f + p) rfl]
      by_cases ec : c = ch
      · subst ec; rw [if_neg (by omega), if_pos rfl]; exact hle
      · rw [if_neg (by omega), if_neg (by omega)]; exact hbest c k2 k3
    · rw [if_neg (c := f + p = f + r) (by omega), if_neg (c := f + p = f + ch) (by omega)]
      by_cases ec : c = r
      · subst ec; rw [if_pos rfl]; exact h2 p ch k1 k2 hch hlt
      · rw [if_neg (c := f + c = f + r) (by omega)]
        by_cases ec2 : c = ch
        · exfalso; subst ec2; unfold Child at k2 hch; omega
        · rw [if_neg (by omega)]; exact h1 p c k1 k2 k3 ep
  · have hp : p = r := by unfold Child at k2 hch; omega
    subst hp
    have hcc : ch < c := by unfold Child at k3; omega
    unfold swp
    rw [if_pos (c := f + p = f + p) rfl, if_neg (by omega), if_neg (by omega)]
    exact h1 ch c (by omega) k3 k4 (by omega)

theorem Heap.top {f k : Nat} {d : Nat → Int} (h : Heap f 0 k d) : ∀ c, c < k → d (f + c) ≤ d f := by
  intro c
  induction c using Nat.strongRecOn with
  | ind c ih =>
    intro hc
    by_cases e : c = 0
    · subst e; exact Int.le_refl _
    · have h1 := h ((c - 1) / 2) c (Nat.zero_le _) (by unfold Child; omega) hc
      have h2 := ih ((c - 1) / 2) (by omega) (by omega)
      omega

/-- from place k on all is in order, and no less than what lies ahead -/
def Tail (f k hi : Nat) (d : Nat → Int) : Prop := ∀ p q, p < q → k ≤ q → q < hi → d (f + p) ≤ d (f + q)
theorem Tail.sorted {f hi : Nat} {d : Nat → Int} (h : Tail f 0 hi d) : Sorted f (f + hi) d := by
  intro p q h1 h2 h3
  have := h (p - f) (q - f) (by omega) (Nat.zero_le _) (by omega)
  rwa [show f + (p - f) = p by omega, show f + (q - f) = q by omega] at this
theorem Tail.swap {f k hi : Nat} {d : Nat → Int} (h : Tail f (k + 1) hi d) (hk : k < hi) (hh : Heap f 0 (k + 1) d) : Tail f k hi (swp d f (f + k)) := by
  intro p q h1 h2 h3
  have top := hh.top
  unfold swp
  by_cases eq : q = k
  · subst eq
    by_cases e0 : q = 0
    · omega
    · rw [if_neg (c := f + q = f) (by omega), if_pos (c := f + q = f + q) rfl]
      by_cases ep : p = 0
      · subst ep; simp only [Nat.add_zero, if_true]; exact top q (by omega)
      · rw [if_neg (by omega), if_neg (by omega)]; exact top p (by omega)
  · rw [if_neg (c := f + q = f) (by omega), if_neg (c := f + q = f + k) (by omega)]
    by_cases ep : p = 0
    · subst ep; simp only [Nat.add_zero, if_true]; exact h k q (by omega) (by omega) h3
    · rw [if_neg (c := f + p = f) (by omega)]
      by_cases ek : p = k
      · subst ek; rw [if_pos rfl]; exact h 0 q (by omega) (by omega) h3
      · rw [if_neg (by omega)]; exact h p q h1 (by omega) h3
theorem Heap.swap {f k : Nat} {d : Nat → Int} (h : Heap f 0 (k + 1) d) : Heap f 1 k (swp d f (f + k)) := by
  intro p c h1 h2 h3
  have hpc : p < c := by unfold Child at h2; omega
  unfold swp
  rw [if_neg (by omega), if_neg (by omega), if_neg (by omega), if_neg (by omega)]
  exact h p c (by omega) h2 (by omega)
theorem Tail.turned {f k hi : Nat} {d e : Nat → Int} (h : Tail f k hi d) (hp : RP f (f + k) d e) : Tail f k hi e := by
  intro p q h1 h2 h3
  have eq : e (f + q) = d (f + q) := hp.out (by omega)
  rw [eq]
  by_cases hpk : p < k
  · have := hp.all (P := fun x => x ≤ d (f + q)) (fun j j1 j2 => by
      have := h (j - f) q (by omega) h2 h3
      rwa [show f + (j - f) = j by omega] at this) (f + p) (by omega) (by omega)
    exact this
  · rw [hp.out (k := f + p) (by omega)]
    exact h p q h1 h2 h3
end Go.Proofs.Ytnkpljcfmifinaa.swaps
