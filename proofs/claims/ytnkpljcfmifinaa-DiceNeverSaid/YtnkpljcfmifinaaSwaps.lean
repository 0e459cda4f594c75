/- Plain facts on rows of numbers that are turned by exchanges alone: nothing of the program. -/
namespace Go.Proofs.Ytnkpljcfmifinaa.swaps

/-- a row of numbers is a function of the place; two places changed about -/
def swp (d : Nat → Int) (i j : Nat) : Nat → Int := fun k => if k = i then d j else if k = j then d i else d k

/-- d' comes of d by exchanges within [a, b) -/
inductive RP (a b : Nat) (d : Nat → Int) : (Nat → Int) → Prop
  | refl : RP a b d d
  | swap {d' : Nat → Int} (i j : Nat) (hi : a ≤ i ∧ i < b) (hj : a ≤ j ∧ j < b) (h : RP a b d d') : RP a b d (swp d' i j)

theorem RP.one {a b i j : Nat} (d : Nat → Int) (hi : a ≤ i ∧ i < b) (hj : a ≤ j ∧ j < b) : RP a b d (swp d i j) := .swap i j hi hj .refl
theorem RP.trans {a b : Nat} {d e f : Nat → Int} (h : RP a b d e) (k : RP a b e f) : RP a b d f := by
  induction k with
  | refl => exact h
  | swap i j hi hj _ ih => exact .swap i j hi hj ih
theorem RP.wide {a b a' b' : Nat} {d e : Nat → Int} (h : RP a b d e) (ha : a' ≤ a) (hb : b ≤ b') : RP a' b' d e := by
  induction h with
  | refl => exact .refl
  | swap i j hi hj _ ih => exact .swap i j ⟨by omega, by omega⟩ ⟨by omega, by omega⟩ ih
theorem RP.out {a b : Nat} {d e : Nat → Int} (h : RP a b d e) {k : Nat} (hk : k < a ∨ b ≤ k) : e k = d k := by
  induction h with
  | refl => rfl
  | swap i j hi hj _ ih => unfold swp; rw [if_neg (by omega), if_neg (by omega)]; exact ih
/-- what holds of each number within holds of each behind it -/
theorem RP.all {a b : Nat} {d e : Nat → Int} (h : RP a b d e) {P : Int → Prop} (hp : ∀ k, a ≤ k → k < b → P (d k)) : ∀ k, a ≤ k → k < b → P (e k) := by
  induction h with
  | refl => exact hp
  | swap i j hi hj _ ih =>
    intro k h1 h2
    unfold swp
    split
    · exact ih j hj.1 hj.2
    · split
      · exact ih i hi.1 hi.2
      · exact ih k h1 h2
/-- the numbers are the same, at other places -/
theorem RP.places {a b : Nat} {d e : Nat → Int} (h : RP a b d e) :
    ∃ s t : Nat → Nat, (∀ k, s (t k) = k) ∧ (∀ k, t (s k) = k) ∧ (∀ k, a ≤ k → k < b → a ≤ s k ∧ s k < b) ∧ (∀ k, a ≤ k → k < b → a ≤ t k ∧ t k < b) ∧ ∀ k, e k = d (s k) := by
  induction h with
  | refl => exact ⟨id, id, fun _ => rfl, fun _ => rfl, fun k h1 h2 => ⟨h1, h2⟩, fun k h1 h2 => ⟨h1, h2⟩, fun _ => rfl⟩
  | @swap e i j hi hj _ ih =>
    obtain ⟨s, t, h1, h2, h3, h4, h5⟩ := ih
    refine ⟨fun k => if k = i then s j else if k = j then s i else s k, fun k => if t k = i then j else if t k = j then i else t k, fun k => ?_, fun k => ?_, fun k ha hb => ?_, fun k ha hb => ?_, fun k => ?_⟩
    · dsimp only
      by_cases e1 : t k = i
      · rw [if_pos e1]
        by_cases e2 : j = i
        · rw [if_pos e2, e2, ← e1, h1]
        · rw [if_neg e2, if_pos rfl, ← e1, h1]
      · rw [if_neg e1]
        by_cases e2 : t k = j
        · rw [if_pos e2, if_pos rfl, ← e2, h1]
        · rw [if_neg e2, if_neg e1, if_neg e2, h1]
    · dsimp only
      by_cases e1 : k = i
      · rw [if_pos e1, h2]
        by_cases e2 : j = i
        · rw [if_pos e2, e2, e1]
        · rw [if_neg e2, if_pos rfl, e1]
      · rw [if_neg e1]
        by_cases e2 : k = j
        · rw [if_pos e2, h2, if_pos rfl, e2]
        · rw [if_neg e2, h2, if_neg e1, if_neg e2]
    · dsimp only
      split
      · exact h3 j hj.1 hj.2
      · split
        · exact h3 i hi.1 hi.2
        · exact h3 k ha hb
    · dsimp only
      split
      · exact hj
      · split
        · exact hi
        · exact h4 k ha hb
    · unfold swp
      dsimp only
      split
      · exact h5 j
      · split
        · exact h5 i
        · exact h5 k

/-- [a, b) is in order -/
def Sorted (a b : Nat) (d : Nat → Int) : Prop := ∀ p q, a ≤ p → p < q → q < b → d p ≤ d q
theorem Sorted.of_step {a b : Nat} {d : Nat → Int} (h : ∀ q, a < q → q < b → d (q - 1) ≤ d q) : Sorted a b d := by
  intro p q hp hpq hq
  obtain ⟨n, rfl⟩ : ∃ n, q = p + 1 + n := ⟨q - (p + 1), by omega⟩
  clear hpq
  induction n with
  | zero => simpa using h (p + 1) (by omega) hq
  | succ n ih =>
    have h1 := ih (by omega)
    have h2 := h (p + 1 + (n + 1)) (by omega) hq
    rw [show p + 1 + (n + 1) - 1 = p + 1 + n by omega] at h2
    omega
theorem Sorted.mono {a b a' b' : Nat} {d : Nat → Int} (h : Sorted a b d) (ha : a ≤ a') (hb : b' ≤ b) : Sorted a' b' d := fun p q h1 h2 h3 => h p q (by omega) h2 (by omega)

/-- all is in order up to i but the number at j, which is no greater than those behind it -/
def Hole (a i j : Nat) (d : Nat → Int) : Prop := ∀ p q, a ≤ p → p < q → q ≤ i → q ≠ j → d p ≤ d q
theorem Hole.start {a i : Nat} {d : Nat → Int} (h : Sorted a i d) : Hole a i i d := fun p q h1 h2 h3 h4 => h p q h1 h2 (by omega)
theorem Hole.done {a i j : Nat} {d : Nat → Int} (h : Hole a i j d) (hj : j ≤ a ∨ d (j - 1) ≤ d j) : Sorted a (i + 1) d := by
  intro p q h1 h2 h3
  by_cases e : q = j
  · subst e
    rcases hj with hj | hj
    · omega
    · by_cases e2 : p = q - 1
      · rw [e2]; exact hj
      · have := h p (q - 1) h1 (by omega) (by omega) (by omega)
        omega
  · exact h p q h1 h2 (by omega) e
theorem Hole.step {a i j : Nat} {d : Nat → Int} (h : Hole a i j d) (hj : a < j) (hji : j ≤ i) (hlt : d j < d (j - 1)) : Hole a i (j - 1) (swp d j (j - 1)) := by
  intro p q h1 h2 h3 h4
  unfold swp
  by_cases eq : q = j
  · subst eq
    rw [if_pos rfl]
    rw [if_neg (by omega)]
    by_cases e2 : p = q - 1
    · rw [if_pos e2]; omega
    · rw [if_neg e2]; exact h p (q - 1) h1 (by omega) (by omega) (by omega)
  · rw [if_neg (c := q = j) eq, if_neg (c := q = j - 1) h4]
    by_cases e1 : p = j
    · rw [if_pos e1]; exact h (j - 1) q (by omega) (by omega) h3 eq
    · rw [if_neg e1]
      by_cases e2 : p = j - 1
      · rw [if_pos e2]
        exact h j q (by omega) (by omega) h3 eq
      · rw [if_neg e2]; exact h p q h1 h2 h3 eq
end Go.Proofs.Ytnkpljcfmifinaa.swaps
