/- Plain facts on rows of numbers that are turned by exchanges alone: nothing of the program. -/
import Derived.Test.YtjlglfjikfpboaaRows
import Derived.Test.YtjlglfjikfpboaaTermA
import Derived.BigRegion
import Derived.ChangeAlike
import Derived.Test.YtjlglfjikfpboaaShelf
import Derived.Lib.ItoaNum
import Derived.Deep.CutRange
import Derived.Deep.LoopGhost

namespace Go.Proofs.Ytjlglfjikfpboaa.swaps
set_option linter.unusedVariables false
set_option linter.unusedSimpArgs false

/-- a row of numbers is a function of the place; two places changed about -/
def swp (d : Nat → Int) (i j : Nat) : Nat → Int := fun k => if k = i then d j else if k = j then d i else d k

/-- d' comes of d by exchanges within [a, b) -/
inductive RP (a b : Nat) (d : Nat → Int) : (Nat → Int) → Prop
  | refl : RP a b d d
  | swap {d' : Nat → Int} (i j : Nat) (hi : a ≤ i ∧ i < b) (hj : a ≤ j ∧ j < b) (h : RP a b d d') : RP a b d (swp d' i j)

theorem RP.one {a b i j : Nat} (d : Nat → Int) (hi : a ≤ i ∧ i < b) (hj : a ≤ j ∧ j < b) : RP a b d (swp d i j) := .swap i j hi hj .refl
theorem RP.trans {a b : Nat} {d e f : Nat → Int} (h : RP a b d e) (k : RP a b e f) : RP a b d f := by
  induction k with
  | refl => exact h
  | swap i j hi hj _ ih => exact .swap i j hi hj ih
theorem RP.wide {a b a' b' : Nat} {d e : Nat → Int} (h : RP a b d e) (ha : a' ≤ a) (hb : b ≤ b') : RP a' b' d e := by
  induction h with
  | refl => exact .refl
  | swap i j hi hj _ ih => exact .swap i j ⟨by omega, by omega⟩ ⟨by omega, by omega⟩ ih
theorem RP.out {a b : Nat} {d e : Nat → Int} (h : RP a b d e) {k : Nat} (hk : k < a ∨ b ≤ k) : e k = d k := by
  induction h with
  | refl => rfl
  | swap i j hi hj _ ih => unfold swp; rw [if_neg (by omega), if_neg (by omega)]; exact ih
/-- what holds of each number within holds of each behind it -/
theorem RP.all {a b : Nat} {d e : Nat → Int} (h : RP a b d e) {P : Int → Prop} (hp : ∀ k, a ≤ k → k < b → P (d k)) : ∀ k, a ≤ k → k < b → P (e k) := by
  induction h with
  | refl => exact hp
  | swap i j hi hj _ ih =>
    intro k h1 h2
    unfold swp
    split
    · exact ih j hj.1 hj.2
    · split
      · exact ih i hi.1 hi.2
      · exact ih k h1 h2
/-- the numbers are the same, at other places -/
theorem RP.places {a b : Nat} {d e : Nat → Int} (h : RP a b d e) :
    ∃ s t : Nat → Nat, (∀ k, s (t k) = k) ∧ (∀ k, t (s k) = k) ∧ (∀ k, a ≤ k → k < b → a ≤ s k ∧ s k < b) ∧ (∀ k, a ≤ k → k < b → a ≤ t k ∧ t k < b) ∧ ∀ k, e k = d (s k) := by
  induction h with
  | refl => exact ⟨id, id, fun _ => rfl, fun _ => rfl, fun k h1 h2 => ⟨h1, h2⟩, fun k h1 h2 => ⟨h1, h2⟩, fun _ => rfl⟩
  | @swap e i j hi hj _ ih =>
    obtain ⟨s, t, h1, h2, h3, h4, h5⟩ := ih
    refine ⟨fun k => if k = i then s j else if k = j then s i else s k, fun k => if t k = i then j else if t k = j then i else t k, fun k => ?_, fun k => ?_, fun k ha hb => ?_, fun k ha hb => ?_, fun k => ?_⟩
    · dsimp only
      by_cases e1 : t k = i
      · rw [if_pos e1]
        by_cases e2 : j = i
        · rw [if_pos e2, e2, ← e1, h1]
        · rw [if_neg e2, if_pos rfl, ← e1, h1]
      · rw [if_neg e1]
        by_cases e2 : t k = j
        · rw [if_pos e2, if_pos rfl, ← e2, h1]
        · rw [if_neg e2, if_neg e1, if_neg e2, h1]
    · dsimp only
      by_cases e1 : k = i
      · rw [if_pos e1, h2]
        by_cases e2 : j = i
        · rw [if_pos e2, e2, e1]
        · rw [if_neg e2, if_pos rfl, e1]
      · rw [if_neg e1]
        by_cases e2 : k = j
        · rw [if_pos e2, h2, if_pos rfl, e2]
        · rw [if_neg e2, h2, if_neg e1, if_neg e2]
    · dsimp only
      split
      · exact h3 j hj.1 hj.2
      · split
        · exact h3 i hi.1 hi.2
        · exact h3 k ha hb
    · dsimp only
      split
      · exact hj
      · split
        · exact hi
        · exact h4 k ha hb
    · unfold swp
      dsimp only
      split
      · exact h5 j
      · split
        · exact h5 i
        · exact h5 k

/-- [a, b) is in order -/
def Sorted (a b : Nat) (d : Nat → Int) : Prop := ∀ p q, a ≤ p → p < q → q < b → d p ≤ d q
theorem Sorted.of_step {a b : Nat} {d : Nat → Int} (h : ∀ q, a < q → q < b → d (q - 1) ≤ d q) : Sorted a b d := by
  intro p q hp hpq hq
  obtain ⟨n, rfl⟩ : ∃ n, q = p + 1 + n := ⟨q - (p + 1), by omega⟩
  clear hpq
  induction n with
  | zero => simpa using h (p + 1) (by omega) hq
  | succ n ih =>
    have h1 := ih (by omega)
    have h2 := h (p + 1 + (n + 1)) (by omega) hq
    rw [show p + 1 + (n + 1) - 1 = p + 1 + n by omega] at h2
    omega
theorem Sorted.mono {a b a' b' : Nat} {d : Nat → Int} (h : Sorted a b d) (ha : a ≤ a') (hb : b' ≤ b) : Sorted a' b' d := fun p q h1 h2 h3 => h p q (by omega) h2 (by omega)

/-- all is in order up to i but the number at j, which is no greater than those behind it -/
def Hole (a i j : Nat) (d : Nat → Int) : Prop := ∀ p q, a ≤ p → p < q → q ≤ i → q ≠ j → d p ≤ d q
theorem Hole.start {a i : Nat} {d : Nat → Int} (h : Sorted a i d) : Hole a i i d := fun p q h1 h2 h3 h4 => h p q h1 h2 (by omega)
theorem Hole.done {a i j : Nat} {d : Nat → Int} (h : Hole a i j d) (hj : j ≤ a ∨ d (j - 1) ≤ d j) : Sorted a (i + 1) d := by
  intro p q h1 h2 h3
  by_cases e : q = j
  · subst e
    rcases hj with hj | hj
    · omega
    · by_cases e2 : p = q - 1
      · rw [e2]; exact hj
      · have := h p (q - 1) h1 (by omega) (by omega) (by omega)
        omega
  · exact h p q h1 h2 (by omega) e
theorem Hole.step {a i j : Nat} {d : Nat → Int} (h : Hole a i j d) (hj : a < j) (hji : j ≤ i) (hlt : d j < d (j - 1)) : Hole a i (j - 1) (swp d j (j - 1)) := by
  intro p q h1 h2 h3 h4
  unfold swp
  by_cases eq : q = j
  · subst eq
    rw [if_pos rfl]
    rw [if_neg (by omega)]
    by_cases e2 : p = q - 1
    · rw [if_pos e2]; omega
    · rw [if_neg e2]; exact h p (q - 1) h1 (by omega) (by omega) (by omega)
  · rw [if_neg (c := q = j) eq, if_neg (c := q = j - 1) h4]
    by_cases e1 : p = j
    · rw [if_pos e1]; exact h (j - 1) q (by omega) (by omega) h3 eq
    · rw [if_neg e1]
      by_cases e2 : p = j - 1
      · rw [if_pos e2]
        exact h j q (by omega) (by omega) h3 eq
      · rw [if_neg e2]; exact h p q h1 h2 h3 eq
end Go.Proofs.Ytjlglfjikfpboaa.swaps

/- The library's sort at numbers of kind uint64, first part: a row of numbers in memory; comparing; insertion. -/

namespace Go.Proofs.Ytjlglfjikfpboaa.sorts
set_option linter.unusedVariables false
set_option linter.unusedSimpArgs false
open Go.RowKit Go.Proofs.Ytjlglfjikfpboaa.base Go.Proofs.Ytjlglfjikfpboaa.swaps

/-- block g is a row of n numbers, not frozen: the numbers d -/
def Row (w : World) (g n : Nat) (d : Nat → Int) : Prop :=
  ∃ cs : Array Value, w.heap[g]? = some (.cells cs 36 (0, 0)) ∧ n ≤ cs.size ∧ ∀ i, i < n → cs[i]? = some (.int .u64 (d i))
section
variable {w w' : World} {g n : Nat} {d : Nat → Int}
theorem Row.cell (h : Row w g n d) {i : Nat} (hi : i < n) : w.cell? ⟨g, i, none⟩ = some (.int .u64 (d i)) := by
  obtain ⟨cs, h1, h2, h3⟩ := h
  rw [Blk.cell (t := 36) (cs := cs) h1]
  exact h3 i hi
theorem Row.frozen (h : Row w g n d) (i : Nat) : w.frozen? ⟨g, i, none⟩ = false := by
  obtain ⟨cs, h1, h2, h3⟩ := h
  exact Blk.frozen (t := 36) (cs := cs) h1 i
theorem Row.lt (h : Row w g n d) : g < w.heap.size := by
  obtain ⟨cs, h1, h2, h3⟩ := h
  exact Blk.lt (t := 36) (cs := cs) h1
theorem Row.drew (h : Row w g n d) : Row w.drew g n d := h
theorem Row.keep (h : Row w g n d) (hk : w'.heap[g]? = w.heap[g]?) : Row w' g n d := by
  obtain ⟨cs, h1, h2, h3⟩ := h
  exact ⟨cs, hk.trans h1, h2, h3⟩
theorem Row.put (h : Row w g n d) (i : Nat) (x : Int) : Row (w.setCell ⟨g, i, none⟩ (.int .u64 x)) g n (fun k => if k = i then x else d k) := by
  obtain ⟨cs, h1, h2, h3⟩ := h
  refine ⟨cs.setIfInBounds i (.int .u64 x), Blk.put (t := 36) (cs := cs) h1 i _, by simpa using h2, fun k hk => ?_⟩
  rw [Array.getElem?_setIfInBounds]
  by_cases e : i = k
  · subst e
    rw [if_pos rfl, if_pos (by omega)]
    simp
  · rw [if_neg e, h3 k hk]
    have e' : ¬ k = i := fun h => e h.symm
    simp [e']
theorem Row.swap (h : Row w g n d) (i j : Nat) : Row ((w.setCell ⟨g, i, none⟩ (.int .u64 (d j))).setCell ⟨g, j, none⟩ (.int .u64 (d i))) g n (swp d i j) := by
  obtain ⟨cs, h1, h2, h3⟩ := (h.put i (d j)).put j (d i)
  refine ⟨cs, h1, h2, fun k hk => ?_⟩
  rw [h3 k hk]
  unfold swp
  by_cases e : k = j
  · by_cases e' : k = i
    · subst e; subst e'; simp
    · simp [e]
      intro h'
      exact absurd (e.trans h') e'
  · simp [e]
end

theorem less_any (x y : Int) (w : World) : Calls Try.prog 154 #[.int .u64 x, .int .u64 y] w fun e w' => e = .returned (.bool (decide (x < y))) ∧ w' = w := by
  go_enter Try.func154, Try.ntmps154
  go_wp2
  go_ret
  exact ⟨rfl, rfl⟩

/-- the same behind an earlier draw -/
theorem less_more (x y : Int) (w : World) (a n : Nat) : Calls Try.prog 154 #[.int .u64 x, .int .u64 y] (w.drewN (a + n)) fun e w' => e = .returned (.bool (decide (x < y))) ∧ ∃ m, w' = w.drewN (a + m) :=
  (less_any x y _).mono fun _ _ ⟨he, hm⟩ => ⟨he, n, hm⟩

set_option maxRecDepth 100000 in
theorem insertion_ok (g n c a b : Nat) (d0 : Nat → Int) (w : World) (hrow : Row w g n d0) (hab : a ≤ b) (hbn : b ≤ n) (hn : n ≤ 100000000) :
    Calls Try.prog 148 #[.slice (some ⟨g, 0, none⟩) n c, .int .i64 a, .int .i64 b] w fun e w' =>
      e = .returned (.tuple #[]) ∧ ∃ d, Row w' g n d ∧ RP a b d0 d ∧ Sorted a b d ∧ w.grownBy w' (some g) := by
  go_enter Try.func148, Try.ntmps148
  go_wp2
  go_loopw [6] (fun i wr => ∃ (k : Nat) (d : Nat → Int), i = .int .i64 k ∧ a + 1 ≤ k ∧ k ≤ b + 1 ∧ Row wr g n d ∧ RP a b d0 d ∧ Sorted a k d ∧ w.grownBy wr (some g)) (fun i _ => b + 1 - (intOf i).toNat)
  case atStart => exact ⟨a + 1, d0, by go_num, by omega, by omega, hrow, .refl, fun p q h1 h2 h3 => by omega, World.grownBy.refl _ _⟩
  case round =>
    obtain ⟨k, d, rfl, hk1, hk2, hr, hp, hs, hg⟩ := hrel
    by_cases hkb : k < b
    · go_wp2
      go_loopw [7] (fun j wr => ∃ (q : Nat) (d : Nat → Int), j = .int .i64 q ∧ a ≤ q ∧ q ≤ k ∧ Row wr g n d ∧ RP a b d0 d ∧ Hole a k q d ∧ w.grownBy wr (some g)) (fun j _ => (intOf j).toNat)
      case atStart => exact ⟨k, d, rfl, by omega, Nat.le_refl _, hr, hp, .start hs, hg⟩
      case round =>
        obtain ⟨q, d', rfl, hq1, hq2, hr', hp', hh, hg'⟩ := hrel
        have hcq : wr.cell? ⟨g, q, none⟩ = some (.int .u64 (d' q)) := hr'.cell (by omega)
        have hcp : wr.cell? ⟨g, q - 1, none⟩ = some (.int .u64 (d' (q - 1))) := hr'.cell (by omega)
        have hfq : wr.frozen? ⟨g, q, none⟩ = false := hr'.frozen _
        have hfp : wr.frozen? ⟨g, q - 1, none⟩ = false := hr'.frozen _
        by_cases haq : a < q
        · by_cases hlt : d' q < d' (q - 1)
          · go_wp2_with fail
            go_quiet ((go_at_call 154; exact Calls.quiet_of_same (less_any _ _ _)))
            go_wp2_with fail
            go_region
            go_wp2
            go_roundw
            case rel =>
              refine ⟨q - 1, swp d' q (q - 1), by go_num, by omega, by omega, ?_, hp'.trans (.one _ ⟨by omega, by omega⟩ ⟨by omega, by omega⟩), hh.step haq hq2 hlt, ?_⟩
              · exact (Row.swap hr' q (q - 1))
              · exact grown_trans (grown_trans (grown_drew hg' _) (grown_set _ _ _ _)) (grown_set _ _ _ _)
            case measure => simp [intOf]; omega
          · go_wp2_with fail
            go_quiet ((go_at_call 154; exact Calls.quiet_of_same (less_any _ _ _)))
            go_wp2
            go_roundw
            case rel => exact ⟨k + 1, d', by go_num, by omega, by omega, hr', hp', hh.done (.inr (by omega)), grown_drew hg' _⟩
            case measure => simp [intOf]; omega
        · have hdec : decide ((a : Int) < (q : Int)) = false := by simp; omega
          go_wp2_with fail
          go_quiet (fail)
          go_wp2
          go_roundw
          case rel => exact ⟨k + 1, d', by go_num, by omega, by omega, hr', hp', hh.done (.inl (by omega)), grown_drew hg' _⟩
          case measure => simp [intOf]; omega
    · go_wp2
      go_end0
      exact ⟨rfl, d, hr, hp, hs.mono (Nat.le_refl _) (by omega), hg⟩
end Go.Proofs.Ytjlglfjikfpboaa.sorts

/- Plain facts on heaps in a row of numbers: nothing of the program. -/

namespace Go.Proofs.Ytjlglfjikfpboaa.swaps
set_option linter.unusedVariables false
set_option linter.unusedSimpArgs false

def Child (p c : Nat) : Prop := c = 2 * p + 1 ∨ c = 2 * p + 2
/-- from place lo on each parent's number is no less than its children's, those below hi -/
def Heap (f lo hi : Nat) (d : Nat → Int) : Prop := ∀ p c, lo ≤ p → Child p c → c < hi → d (f + c) ≤ d (f + p)
/-- likewise, but for r's children, which are no greater than r's parent -/
def Sift (f lo hi r : Nat) (d : Nat → Int) : Prop :=
  lo ≤ r ∧ (∀ p c, lo ≤ p → Child p c → c < hi → p ≠ r → d (f + c) ≤ d (f + p)) ∧ ∀ p c, lo ≤ p → Child p r → Child r c → c < hi → d (f + c) ≤ d (f + p)

theorem Sift.of_heap {f lo hi : Nat} {d : Nat → Int} (h : Heap f (lo + 1) hi d) : Sift f lo hi lo d :=
  ⟨Nat.le_refl _, fun p c h1 h2 h3 h4 => h p c (by omega) h2 h3, fun p c h1 h2 => by unfold Child at h2; omega⟩
theorem Sift.leaf {f lo hi r : Nat} {d : Nat → Int} (h : Sift f lo hi r d) (hc : hi ≤ 2 * r + 1) : Heap f lo hi d := fun p c h1 h2 h3 =>
  h.2.1 p c h1 h2 h3 (fun e => by subst e; unfold Child at h2; omega)
theorem Sift.stop {f lo hi r ch : Nat} {d : Nat → Int} (h : Sift f lo hi r d) (hbest : ∀ c, Child r c → c < hi → d (f + c) ≤ d (f + ch)) (hle : d (f + ch) ≤ d (f + r)) : Heap f lo hi d := fun p c h1 h2 h3 => by
  by_cases e : p = r
  · subst e; have := hbest c h2 h3; omega
  · exact h.2.1 p c h1 h2 h3 e
theorem Sift.down {f lo hi r ch : Nat} {d : Nat → Int} (h : Sift f lo hi r d) (hch : Child r ch) (hlt : ch < hi) (hbest : ∀ c, Child r c → c < hi → d (f + c) ≤ d (f + ch)) (hle : d (f + r) ≤ d (f + ch)) :
    Sift f lo hi ch (swp d (f + r) (f + ch)) := by
  obtain ⟨h0, h1, h2⟩ := h
  have hrc : r < ch := by unfold Child at hch; omega
  refine ⟨by omega, fun p c k1 k2 k3 k4 => ?_, fun p c k1 k2 k3 k4 => ?_⟩
  · have hpc : p < c := by unfold Child at k2; omega
    unfold swp
    by_cases ep : p = r
    · subst ep
      rw [if_pos (c := f + p = f + p) rfl]
      by_cases ec : c = ch
      · subst ec; rw [if_neg (by omega), if_pos rfl]; exact hle
      · rw [if_neg (by omega), if_neg (by omega)]; exact hbest c k2 k3
    · rw [if_neg (c := f + p = f + r) (by omega), if_neg (c := f + p = f + ch) (by omega)]
      by_cases ec : c = r
      · subst ec; rw [if_pos rfl]; exact h2 p ch k1 k2 hch hlt
      · rw [if_neg (c := f + c = f + r) (by omega)]
        by_cases ec2 : c = ch
        · exfalso; subst ec2; unfold Child at k2 hch; omega
        · rw [if_neg (by omega)]; exact h1 p c k1 k2 k3 ep
  · have hp : p = r := by unfold Child at k2 hch; omega
    subst hp
    have hcc : ch < c := by unfold Child at k3; omega
    unfold swp
    rw [if_pos (c := f + p = f + p) rfl, if_neg (by omega), if_neg (by omega)]
    exact h1 ch c (by omega) k3 k4 (by omega)

theorem Heap.top {f k : Nat} {d : Nat → Int} (h : Heap f 0 k d) : ∀ c, c < k → d (f + c) ≤ d f := by
  intro c
  induction c using Nat.strongRecOn with
  | ind c ih =>
    intro hc
    by_cases e : c = 0
    · subst e; exact Int.le_refl _
    · have h1 := h ((c - 1) / 2) c (Nat.zero_le _) (by unfold Child; omega) hc
      have h2 := ih ((c - 1) / 2) (by omega) (by omega)
      omega

/-- from place k on all is in order, and no less than what lies ahead -/
def Tail (f k hi : Nat) (d : Nat → Int) : Prop := ∀ p q, p < q → k ≤ q → q < hi → d (f + p) ≤ d (f + q)
theorem Tail.sorted {f hi : Nat} {d : Nat → Int} (h : Tail f 0 hi d) : Sorted f (f + hi) d := by
  intro p q h1 h2 h3
  have := h (p - f) (q - f) (by omega) (Nat.zero_le _) (by omega)
  rwa [show f + (p - f) = p by omega, show f + (q - f) = q by omega] at this
theorem Tail.swap {f k hi : Nat} {d : Nat → Int} (h : Tail f (k + 1) hi d) (hk : k < hi) (hh : Heap f 0 (k + 1) d) : Tail f k hi (swp d f (f + k)) := by
  intro p q h1 h2 h3
  have top := hh.top
  unfold swp
  by_cases eq : q = k
  · subst eq
    by_cases e0 : q = 0
    · omega
    · rw [if_neg (c := f + q = f) (by omega), if_pos (c := f + q = f + q) rfl]
      by_cases ep : p = 0
      · subst ep; simp only [Nat.add_zero, if_true]; exact top q (by omega)
      · rw [if_neg (by omega), if_neg (by omega)]; exact top p (by omega)
  · rw [if_neg (c := f + q = f) (by omega), if_neg (c := f + q = f + k) (by omega)]
    by_cases ep : p = 0
    · subst ep; simp only [Nat.add_zero, if_true]; exact h k q (by omega) (by omega) h3
    · rw [if_neg (c := f + p = f) (by omega)]
      by_cases ek : p = k
      · subst ek; rw [if_pos rfl]; exact h 0 q (by omega) (by omega) h3
      · rw [if_neg (by omega)]; exact h p q h1 (by omega) h3
theorem Heap.swap {f k : Nat} {d : Nat → Int} (h : Heap f 0 (k + 1) d) : Heap f 1 k (swp d f (f + k)) := by
  intro p c h1 h2 h3
  have hpc : p < c := by unfold Child at h2; omega
  unfold swp
  rw [if_neg (by omega), if_neg (by omega), if_neg (by omega), if_neg (by omega)]
  exact h p c (by omega) h2 (by omega)
theorem Tail.turned {f k hi : Nat} {d e : Nat → Int} (h : Tail f k hi d) (hp : RP f (f + k) d e) : Tail f k hi e := by
  intro p q h1 h2 h3
  have eq : e (f + q) = d (f + q) := hp.out (by omega)
  rw [eq]
  by_cases hpk : p < k
  · have := hp.all (P := fun x => x ≤ d (f + q)) (fun j j1 j2 => by
      have := h (j - f) q (by omega) h2 h3
      rwa [show f + (j - f) = j by omega] at this) (f + p) (by omega) (by omega)
    exact this
  · rw [hp.out (k := f + p) (by omega)]
    exact h p q h1 h2 h3
end Go.Proofs.Ytjlglfjikfpboaa.swaps

/- The library's sort at numbers of kind uint64, second part: a range turned about; heaps. -/

namespace Go.Proofs.Ytjlglfjikfpboaa.sorts
set_option linter.unusedVariables false
set_option linter.unusedSimpArgs false
open Go.RowKit Go.Proofs.Ytjlglfjikfpboaa.base Go.Proofs.Ytjlglfjikfpboaa.swaps

set_option maxRecDepth 100000 in
theorem reverse_ok (g n c a b : Nat) (d0 : Nat → Int) (w : World) (hrow : Row w g n d0) (hab : a < b) (hbn : b ≤ n) (hn : n ≤ 100000000) :
    Calls Try.prog 152 #[.slice (some ⟨g, 0, none⟩) n c, .int .i64 a, .int .i64 b] w fun e w' =>
      e = .returned (.tuple #[]) ∧ ∃ d, Row w' g n d ∧ RP a b d0 d ∧ w.grownBy w' (some g) := by
  go_enter Try.func152, Try.ntmps152
  go_wp2
  go_loopw [6, 7] (fun i j wr => ∃ (p q : Nat) (d : Nat → Int), i = .int .i64 p ∧ j = .int .i64 ((q : Int) - 1) ∧ a ≤ p ∧ p ≤ q + 1 ∧ q ≤ b ∧ p ≤ b ∧ Row wr g n d ∧ RP a b d0 d ∧ w.grownBy wr (some g)) (fun i _ _ => b - (intOf i).toNat)
  case atStart => exact ⟨a, b, d0, rfl, rfl, by omega, by omega, by omega, by omega, hrow, .refl, World.grownBy.refl _ _⟩
  case round =>
    obtain ⟨p, q, d, rfl, rfl, hp, hpq, hq, hpb, hr, hrp, hg⟩ := hrel
    by_cases hlt : p + 1 < q
    · have hcp : wr.cell? ⟨g, p, none⟩ = some (.int .u64 (d p)) := hr.cell (by omega)
      have hcq : wr.cell? ⟨g, q - 1, none⟩ = some (.int .u64 (d (q - 1))) := hr.cell (by omega)
      have hfq : wr.frozen? ⟨g, q - 1, none⟩ = false := hr.frozen _
      have hfp : wr.frozen? ⟨g, p, none⟩ = false := hr.frozen _
      go_wp2
      go_region
      go_wp2
      go_roundw
      case rel =>
        refine ⟨p + 1, q - 1, swp d p (q - 1), by go_num, by go_num, by omega, by omega, by omega, by omega, Row.swap hr p (q - 1), hrp.trans (.one _ ⟨by omega, by omega⟩ ⟨by omega, by omega⟩), ?_⟩
        exact grown_trans (grown_trans (grown_drew hg 1) (grown_set _ _ _ _)) (grown_set _ _ _ _)
      case measure => simp [intOf]; omega
    · go_wp2
      first | go_end0 | refine bodyPost_ret (results_none rfl _ _ _) rfl ?_
      exact ⟨rfl, d, hr, hrp, hg⟩

set_option maxHeartbeats 2000000 in
set_option maxRecDepth 100000 in
theorem sift_ok (g n c lo hi f : Nat) (d0 : Nat → Int) (w : World) (hrow : Row w g n d0) (hlo : lo ≤ hi) (hbn : f + hi ≤ n) (hn : n ≤ 100000000) (hs0 : Sift f lo hi lo d0) :
    Calls Try.prog 169 #[.slice (some ⟨g, 0, none⟩) n c, .int .i64 lo, .int .i64 hi, .int .i64 f] w fun e w' =>
      e = .returned (.tuple #[]) ∧ ∃ d, Row w' g n d ∧ RP f (f + hi) d0 d ∧ Heap f lo hi d ∧ w.grownBy w' (some g) := by
  have hs0' : Hid (Sift f lo hi lo d0) := hs0
  clear hs0
  go_enter Try.func169, Try.ntmps169
  go_wp2
  go_loopw [8] (fun i wr => ∃ (r : Nat) (d : Nat → Int), i = .int .i64 r ∧ r ≤ hi ∧ Hid (Sift f lo hi r d) ∧ Row wr g n d ∧ RP f (f + hi) d0 d ∧ w.grownBy wr (some g)) (fun i _ => hi - (intOf i).toNat)
  case atStart => exact ⟨lo, d0, rfl, hlo, hs0', hrow, .refl, World.grownBy.refl _ _⟩
  case round =>
    obtain ⟨r, d, rfl, hrh, hs, hr, hrp, hg⟩ := hrel
    by_cases hleaf : hi ≤ 2 * r + 1
    · go_wp2
      first | go_end0 | refine bodyPost_ret (results_none rfl _ _ _) rfl ?_
      exact ⟨rfl, d, hr, hrp, hs.out.leaf hleaf, hg⟩
    · have hc0 : wr.cell? ⟨g, f + r, none⟩ = some (.int .u64 (d (f + r))) := hr.cell (by omega)
      have hc1 : wr.cell? ⟨g, f + (2 * r + 1), none⟩ = some (.int .u64 (d (f + (2 * r + 1)))) := hr.cell (by omega)
      have hf0 : wr.frozen? ⟨g, f + r, none⟩ = false := hr.frozen _
      have hf1 : wr.frozen? ⟨g, f + (2 * r + 1), none⟩ = false := hr.frozen _
      have v0 : IntKind.i64.wrap ((f : Int) + (r : Int)) = (f : Int) + (r : Int) := IntWalk.i64_in _ (by omega)
      have t0 : ((f : Int) + (r : Int)).toNat = f + r := by omega
      have n0 : 0 ≤ (f : Int) + (r : Int) := by omega
      have l0 : (f : Int) + (r : Int) < (n : Int) := by omega
      have v2 : IntKind.i64.wrap ((f : Int) + (2 * (r : Int) + 1)) = (f : Int) + (2 * (r : Int) + 1) := IntWalk.i64_in _ (by omega)
      have t2 : ((f : Int) + (2 * (r : Int) + 1)).toNat = f + (2 * r + 1) := by omega
      have n2 : 0 ≤ (f : Int) + (2 * (r : Int) + 1) := by omega
      have l2 : (f : Int) + (2 * (r : Int) + 1) < (n : Int) := by omega
      by_cases h2 : 2 * r + 2 < hi
      · have hc2 : wr.cell? ⟨g, f + (2 * r + 1) + 1, none⟩ = some (.int .u64 (d (f + (2 * r + 1) + 1))) := hr.cell (by omega)
        have b1 : 2 * (r : Int) + 1 + 1 < (hi : Int) := by omega
        have v1 : IntKind.i64.wrap (2 * (r : Int) + 1 + 1) = 2 * (r : Int) + 1 + 1 := IntWalk.i64_in _ (by omega)
        by_cases hlt : d (f + (2 * r + 1)) < d (f + (2 * r + 1) + 1)
        · go_wp2_with fail
          go_quiet ((go_at_call 154; exact Calls.quiet_of_same (less_any _ _ _)))
          go_wp2_with fail
          have v3 : IntKind.i64.wrap ((f : Int) + (2 * (r : Int) + 1 + 1)) = (f : Int) + (2 * (r : Int) + 1 + 1) := IntWalk.i64_in _ (by omega)
          have t3 : ((f : Int) + (2 * (r : Int) + 1 + 1)).toNat = f + (2 * r + 1 + 1) := by omega
          have n3 : 0 ≤ (f : Int) + (2 * (r : Int) + 1 + 1) := by omega
          have l3 : (f : Int) + (2 * (r : Int) + 1 + 1) < (n : Int) := by omega
          have hc3 : wr.cell? ⟨g, f + (2 * r + 1 + 1), none⟩ = some (.int .u64 (d (f + (2 * r + 1 + 1)))) := hr.cell (by omega)
          have hf3 : wr.frozen? ⟨g, f + (2 * r + 1 + 1), none⟩ = false := hr.frozen _
          by_cases hup : d (f + r) < d (f + (2 * r + 1 + 1))
          · go_quiet ((go_at_call 154; exact less_more _ _ _ _ _))
            go_wp2_with fail
            go_region
            go_wp2
            go_roundw
            case rel =>
              refine ⟨(2 * r + 1 + 1), swp d (f + r) (f + (2 * r + 1 + 1)), by go_num, by omega, hs.out.down (by unfold Child; omega) (by omega) (fun x hx hxh => by rcases hx with e | e <;> subst e <;> first | (rw [show f + (2 * r + 2) = f + (2 * r + 1 + 1) by omega]; omega) | (rw [show f + (2 * r + 1 + 1) = f + (2 * r + 1) + 1 by omega]; omega)) (by omega), Row.swap hr _ _, hrp.trans (.one _ ⟨by omega, by omega⟩ ⟨by omega, by omega⟩), ?_⟩
              exact grown_trans (grown_trans (grown_drew hg _) (grown_set _ _ _ _)) (grown_set _ _ _ _)
            case measure => simp [intOf]; omega
          · go_quiet ((go_at_call 154; exact less_more _ _ _ _ _))
            go_wp2
            first | go_end0 | refine bodyPost_ret (results_none rfl _ _ _) rfl ?_
            exact ⟨rfl, d, hr, hrp, hs.out.stop (ch := (2 * r + 1 + 1)) (fun x hx hxh => by rcases hx with e | e <;> subst e <;> first | (rw [show f + (2 * r + 2) = f + (2 * r + 1 + 1) by omega]; omega) | (rw [show f + (2 * r + 1 + 1) = f + (2 * r + 1) + 1 by omega]; omega)) (by omega), grown_drew hg _⟩
        · go_wp2_with fail
          go_quiet ((go_at_call 154; exact Calls.quiet_of_same (less_any _ _ _)))
          go_wp2_with fail
          by_cases hup : d (f + r) < d (f + (2 * r + 1))
          · go_quiet ((go_at_call 154; exact less_more _ _ _ _ _))
            go_wp2_with fail
            go_region
            go_wp2
            go_roundw
            case rel =>
              refine ⟨(2 * r + 1), swp d (f + r) (f + (2 * r + 1)), by go_num, by omega, hs.out.down (by unfold Child; omega) (by omega) (fun x hx hxh => by rcases hx with e | e <;> subst e <;> first | omega | (rw [show f + (2 * r + 2) = f + (2 * r + 1) + 1 by omega]; omega)) (by omega), Row.swap hr _ _, hrp.trans (.one _ ⟨by omega, by omega⟩ ⟨by omega, by omega⟩), ?_⟩
              exact grown_trans (grown_trans (grown_drew hg _) (grown_set _ _ _ _)) (grown_set _ _ _ _)
            case measure => simp [intOf]; omega
          · go_quiet ((go_at_call 154; exact less_more _ _ _ _ _))
            go_wp2
            first | go_end0 | refine bodyPost_ret (results_none rfl _ _ _) rfl ?_
            exact ⟨rfl, d, hr, hrp, hs.out.stop (ch := (2 * r + 1)) (fun x hx hxh => by rcases hx with e | e <;> subst e <;> first | omega | (rw [show f + (2 * r + 2) = f + (2 * r + 1) + 1 by omega]; omega)) (by omega), grown_drew hg _⟩
      · have hdec : decide (2 * (r : Int) + 1 + 1 < (hi : Int)) = false := by simp; omega
        go_wp2_with fail
        go_quiet (fail)
        go_wp2_with fail
        by_cases hup : d (f + r) < d (f + (2 * r + 1))
        · go_quiet ((go_at_call 154; exact less_more _ _ _ _ _))
          go_wp2_with fail
          go_region
          go_wp2
          go_roundw
          case rel =>
            refine ⟨(2 * r + 1), swp d (f + r) (f + (2 * r + 1)), by go_num, by omega, hs.out.down (by unfold Child; omega) (by omega) (fun x hx hxh => by rcases hx with e | e <;> subst e <;> omega) (by omega), Row.swap hr _ _, hrp.trans (.one _ ⟨by omega, by omega⟩ ⟨by omega, by omega⟩), ?_⟩
            exact grown_trans (grown_trans (grown_drew hg _) (grown_set _ _ _ _)) (grown_set _ _ _ _)
          case measure => simp [intOf]; omega
        · go_quiet ((go_at_call 154; exact less_more _ _ _ _ _))
          go_wp2
          first | go_end0 | refine bodyPost_ret (results_none rfl _ _ _) rfl ?_
          exact ⟨rfl, d, hr, hrp, hs.out.stop (ch := (2 * r + 1)) (fun x hx hxh => by rcases hx with e | e <;> subst e <;> omega) (by omega), grown_drew hg _⟩
end Go.Proofs.Ytjlglfjikfpboaa.sorts

/- The library's sort at numbers of kind uint64, third part: sorting by a heap. -/

namespace Go.Proofs.Ytjlglfjikfpboaa.sorts
set_option linter.unusedVariables false
set_option linter.unusedSimpArgs false
open Go.RowKit Go.Proofs.Ytjlglfjikfpboaa.base Go.Proofs.Ytjlglfjikfpboaa.swaps

set_option maxHeartbeats 1000000 in
set_option maxRecDepth 100000 in
theorem heap_ok (g n c a b : Nat) (d0 : Nat → Int) (w : World) (hrow : Row w g n d0) (hab : a < b) (hbn : b ≤ n) (hn : n ≤ 100000000) :
    Calls Try.prog 149 #[.slice (some ⟨g, 0, none⟩) n c, .int .i64 a, .int .i64 b] w fun e w' =>
      e = .returned (.tuple #[]) ∧ ∃ d, Row w' g n d ∧ RP a b d0 d ∧ Sorted a b d ∧ w.grownBy w' (some g) := by
  go_enter Try.func149, Try.ntmps149
  go_wp2
  go_loopw [9] (fun i wr => ∃ (k : Nat) (d : Nat → Int), i = .int .i64 ((k : Int) - 1) ∧ k ≤ b - a ∧ Hid (Heap a k (b - a) d) ∧ Row wr g n d ∧ RP a b d0 d ∧ w.grownBy wr (some g)) (fun i _ => (intOf i + 1).toNat)
  case atStart => exact ⟨(b - a - 1) / 2 + 1, d0, by go_num, by omega, (show Heap _ _ _ _ from fun p q h1 h2 h3 => by unfold Child at h2; omega), hrow, .refl, World.grownBy.refl _ _⟩
  case round =>
    obtain ⟨k, d, rfl, hk, hh, hr, hrp, hg⟩ := hrel
    rcases Nat.eq_zero_or_pos k with h0 | h0
    · subst h0
      rw [show ((0 : Nat) : Int) - 1 = -1 from rfl]
      go_wp2
      go_loopw [10] (fun i wr => ∃ (k : Nat) (d : Nat → Int), i = .int .i64 ((k : Int) - 1) ∧ k ≤ b - a ∧ Hid (Heap a 0 k d) ∧ Hid (Tail a k (b - a) d) ∧ Row wr g n d ∧ RP a b d0 d ∧ w.grownBy wr (some g)) (fun i _ => (intOf i + 1).toNat)
      case atStart => exact ⟨b - a, d, by go_num, by omega, hh, (show Tail _ _ _ _ from fun p q h1 h2 h3 => by omega), hr, hrp, hg⟩
      case round =>
        clear hh hr hrp hg
        obtain ⟨k, d, rfl, hk, hh, ht, hr, hrp, hg⟩ := hrel
        rcases Nat.eq_zero_or_pos k with h0 | h0
        · subst h0
          go_wp2
          first | go_end0 | refine bodyPost_ret (results_none rfl _ _ _) rfl ?_
          exact ⟨rfl, d, hr, hrp, by have := ht.out.sorted; rwa [show a + (b - a) = b by omega] at this, hg⟩
        · obtain ⟨j, rfl⟩ : ∃ j, k = j + 1 := ⟨k - 1, by omega⟩
          rw [show ((j + 1 : Nat) : Int) - 1 = (j : Int) by omega]
          have hca : wr.cell? ⟨g, a, none⟩ = some (.int .u64 (d a)) := hr.cell (by omega)
          have hcj : wr.cell? ⟨g, a + j, none⟩ = some (.int .u64 (d (a + j))) := hr.cell (by omega)
          have hfa : wr.frozen? ⟨g, a, none⟩ = false := hr.frozen _
          have hfj : wr.frozen? ⟨g, a + j, none⟩ = false := hr.frozen _
          obtain ⟨v', hy'⟩ := cell?_setCell_some (w := wr) (p := ⟨g, a, none⟩) (x := .int .u64 (d (a + j))) (q := ⟨g, a + j, none⟩) hcj
          have v0 : IntKind.i64.wrap ((a : Int) + (j : Int)) = (a : Int) + (j : Int) := IntWalk.i64_in _ (by omega)
          have hp1 : RP a b d (swp d a (a + j)) := .one _ ⟨by omega, by omega⟩ ⟨by omega, by omega⟩
          have hc := fun (W : World) (hW : Row W g n (swp d a (a + j))) => sift_ok g n c 0 j a (swp d a (a + j)) W hW (by omega) (by omega) hn (Sift.of_heap hh.out.swap)
          rw [show ((0 : Nat) : Int) = 0 from rfl] at hc
          have HT : Hid (Tail a j (b - a) (swp d a (a + j))) := ht.out.swap (by omega) hh.out
          go_wp2_with fail
          go_region
          go_wp2_with (go_at_call 169; ((with_reducible refine (hc _ (Row.swap hr a (a + j)).drew).mono ?_); rintro e w1 ⟨rfl, d1, hr1, hp2, hh1, hg1⟩))
          go_roundw
          case rel => exact ⟨j, d1, by go_num, by omega, hh1, HT.out.turned hp2, hr1, (hrp.trans hp1).trans (hp2.wide (Nat.le_refl _) (by omega)), grown_trans (grown_drew (grown_trans (grown_trans hg (grown_set _ _ _ _)) (grown_set _ _ _ _)) 1) hg1⟩
          case measure => simp [intOf]
    · obtain ⟨j, rfl⟩ : ∃ j, k = j + 1 := ⟨k - 1, by omega⟩
      rw [show ((j + 1 : Nat) : Int) - 1 = (j : Int) by omega]
      have hc := sift_ok g n c j (b - a) a d wr hr (by omega) (by omega) hn (Sift.of_heap hh.out)
      rw [show ((b - a : Nat) : Int) = (b : Int) - (a : Int) by omega, show a + (b - a) = b by omega] at hc
      go_wp2_with (go_at_call 169; ((with_reducible refine hc.mono ?_); rintro e w1 ⟨rfl, d1, hr1, hp1, hh1, hg1⟩))
      go_roundw
      case rel => exact ⟨j, d1, by go_num, by omega, hh1, hr1, hrp.trans hp1, grown_trans hg hg1⟩
      case measure => simp [intOf]
end Go.Proofs.Ytjlglfjikfpboaa.sorts

/- The library's sort at numbers of kind uint64, fourth part: parting a range at a number, those equal to it going left. -/

namespace Go.Proofs.Ytjlglfjikfpboaa.sorts
set_option linter.unusedVariables false
set_option linter.unusedSimpArgs false
open Go.RowKit Go.Proofs.Ytjlglfjikfpboaa.base Go.Proofs.Ytjlglfjikfpboaa.swaps

set_option maxHeartbeats 4000000 in
set_option maxRecDepth 100000 in
theorem equal_ok (g n c a b p : Nat) (d0 : Nat → Int) (w : World) (hrow : Row w g n d0) (hap : a ≤ p) (hpb : p < b) (hbn : b ≤ n) (hn : n ≤ 100000000) :
    Calls Try.prog 155 #[.slice (some ⟨g, 0, none⟩) n c, .int .i64 a, .int .i64 b, .int .i64 p] w fun e w' =>
      ∃ (m : Nat) (d : Nat → Int), e = .returned (.int .i64 m) ∧ a < m ∧ m ≤ b ∧ Row w' g n d ∧ RP a b d0 d ∧ (∀ k, a ≤ k → k < m → d k ≤ d0 p) ∧ (∀ k, m ≤ k → k < b → d0 p < d k) ∧ w.grownBy w' (some g) := by
  have hca : w.cell? ⟨g, a, none⟩ = some (.int .u64 (d0 a)) := hrow.cell (by omega)
  have hcp : w.cell? ⟨g, p, none⟩ = some (.int .u64 (d0 p)) := hrow.cell (by omega)
  have hfa : w.frozen? ⟨g, a, none⟩ = false := hrow.frozen _
  have hfp : w.frozen? ⟨g, p, none⟩ = false := hrow.frozen _
  obtain ⟨v', hy'⟩ := cell?_setCell_some (w := w) (p := ⟨g, a, none⟩) (x := .int .u64 (d0 p)) (q := ⟨g, p, none⟩) hcp
  obtain ⟨P, hP⟩ : ∃ P, P = d0 p := ⟨_, rfl⟩
  have hd1 : Hid (swp d0 a p a = P) := (by rw [hP]; simp [swp] : swp d0 a p a = P)
  have hr1 : RP a b d0 (swp d0 a p) := .one _ ⟨by omega, by omega⟩ ⟨by omega, by omega⟩
  have HP : Hid (P = d0 p) := hP
  clear hP
  go_enter Try.func155, Try.ntmps155
  go_wp2_with fail
  go_region
  go_wp2_with fail
  have hrow1 := Row.drew (Row.swap hrow a p)
  have hg1 : w.grownBy (((w.setCell ⟨g, a, none⟩ (.int .u64 (d0 p))).setCell ⟨g, p, none⟩ (.int .u64 (d0 a))).drew) (some g) := grown_drew (grown_trans (grown_set _ _ _ _) (grown_set _ _ _ _)) 1
  go_loopw [9, 10] (fun vi vj wr => ∃ (i j : Nat) (d : Nat → Int), vi = .int .i64 i ∧ vj = .int .i64 j ∧ a + 1 ≤ i ∧ i ≤ j + 1 ∧ j < b ∧ Row wr g n d ∧ RP a b d0 d ∧ Hid (d a = P) ∧ Hid (∀ k, a ≤ k → k < i → d k ≤ P) ∧ Hid (∀ k, j < k → k < b → P < d k) ∧ w.grownBy wr (some g)) (fun vi vj _ => (intOf vj + 1 - intOf vi).toNat)
  case atStart =>
    have H1 : Hid (∀ k, a ≤ k → k < a + 1 → swp d0 a p k ≤ P) := (show ∀ k, a ≤ k → k < a + 1 → swp d0 a p k ≤ P by
      intro k h1 h2
      obtain rfl : k = a := by omega
      rw [hd1.out]
      omega)
    have H2 : Hid (∀ k, b - 1 < k → k < b → P < swp d0 a p k) := (show ∀ k, b - 1 < k → k < b → P < swp d0 a p k by
      intro k h1 h2
      omega)
    exact ⟨a + 1, b - 1, _, by go_num, by go_num, by omega, by omega, by omega, hrow1, hr1, hd1, H1, H2, hg1⟩
  case round =>
    obtain ⟨i0, j, d, rfl, rfl, hi0, hij0, hjb, hr, hrp, hda, hlo, hhi, hg⟩ := hrel
    clear hrow1 hr1 hd1 hg1 hca hcp hfa hfp hy'
    go_wp2_with fail
    go_loopw [9] (fun vi wr => ∃ i : Nat, vi = .int .i64 i ∧ i0 ≤ i ∧ i ≤ j + 1 ∧ Row wr g n d ∧ Hid (∀ k, a ≤ k → k < i → d k ≤ P) ∧ w.grownBy wr (some g)) (fun vi _ => j + 1 - (intOf vi).toNat)
    case atStart => exact ⟨i0, rfl, Nat.le_refl _, hij0, hr, hlo, hg⟩
    case round =>
      clear hr hlo hg
      obtain ⟨i, rfl, hi, hij, hr, hlo, hg⟩ := hrel
      have hca : wr.cell? ⟨g, a, none⟩ = some (.int .u64 P) := by rw [hr.cell (by omega), hda.out]
      by_cases hgo : i ≤ j ∧ ¬ P < d i
      · obtain ⟨hc, hl⟩ := hgo
        have hci : wr.cell? ⟨g, i, none⟩ = some (.int .u64 (d i)) := hr.cell (by omega)
        have hx : decide (P < d i) = false := by simpa using hl
        go_wp2_with fail
        go_quiet ((go_at_call 154; exact Calls.quiet_of_same (less_any _ _ _)))
        go_wp2
        go_roundw
        case rel =>
          have H1 : Hid (∀ k, a ≤ k → k < i + 1 → d k ≤ P) := (show ∀ k, a ≤ k → k < i + 1 → d k ≤ P by
            intro k h1 h2
            by_cases e : k = i
            · subst e; omega
            · exact hlo.out k h1 (by omega))
          exact ⟨i + 1, by go_num, by omega, by omega, hr, H1, grown_drew hg _⟩
        case measure => simp [intOf]; omega
      · have hst : j < i ∨ P < d i := by omega
        by_cases hc : i ≤ j
        have hci : wr.cell? ⟨g, i, none⟩ = some (.int .u64 (d i)) := hr.cell (by omega)
        have hl : P < d i := by omega
        have HST : Hid (j < i ∨ P < d i) := hst
        clear hgo hst
        go_wp2_with fail
        go_quiet ((go_at_call 154; exact Calls.quiet_of_same (less_any _ _ _)))
        clear hci hl
        rotate_left
        have hdec : decide ((i : Int) ≤ (j : Int)) = false := by simp; omega
        have HST : Hid (j < i ∨ P < d i) := hst
        clear hgo hst
        go_wp2_with fail
        go_quiet (fail)
        clear hdec
        all_goals
          clear hca hc
          go_wp2_with fail
          go_loopw [10] (fun vj wr => ∃ j' : Nat, vj = .int .i64 j' ∧ j' ≤ j ∧ i ≤ j' + 1 ∧ Row wr g n d ∧ Hid (∀ k, j' < k → k < b → P < d k) ∧ w.grownBy wr (some g)) (fun vj _ => (intOf vj).toNat)
          case atStart => exact ⟨j, rfl, Nat.le_refl _, hij, hr, hhi, grown_drew hg _⟩
          case round =>
            clear hr hg
            obtain ⟨j', rfl, hj', hij', hr, hhi', hg⟩ := hrel
            have hca : wr.cell? ⟨g, a, none⟩ = some (.int .u64 P) := by rw [hr.cell (by omega), hda.out]
            have hcj : wr.cell? ⟨g, j', none⟩ = some (.int .u64 (d j')) := hr.cell (by omega)
            by_cases hgo : i ≤ j' ∧ P < d j'
            · obtain ⟨hc, hl⟩ := hgo
              go_wp2_with fail
              go_quiet ((go_at_call 154; exact Calls.quiet_of_same (less_any _ _ _)))
              go_wp2
              go_roundw
              case rel =>
                have H1 : Hid (∀ k, j' - 1 < k → k < b → P < d k) := (show ∀ k, j' - 1 < k → k < b → P < d k by
                  intro k h1 h2
                  by_cases e : k = j'
                  · subst e; omega
                  · exact hhi'.out k (by omega) h2)
                exact ⟨j' - 1, by go_num, by omega, by omega, hr, H1, grown_drew hg _⟩
              case measure => simp [intOf]; omega
            · by_cases hc : i ≤ j'
              · have hl : ¬ P < d j' := by omega
                have hli : P < d i := by have := HST.out; omega
                have hne : i < j' := by
                  by_cases e : i = j'
                  · subst e; omega
                  · omega
                have hci : wr.cell? ⟨g, i, none⟩ = some (.int .u64 (d i)) := hr.cell (by omega)
                have hfi : wr.frozen? ⟨g, i, none⟩ = false := hr.frozen _
                have hfj : wr.frozen? ⟨g, j', none⟩ = false := hr.frozen _
                clear hgo
                go_wp2_with fail
                go_quiet ((go_at_call 154; exact Calls.quiet_of_same (less_any _ _ _)))
                go_wp2_with fail
                go_region
                go_wp2_with fail
                go_roundw
                case rel =>
                  have H0 : Hid (swp d i j' a = P) := (show swp d i j' a = P by unfold swp; rw [if_neg (by omega), if_neg (by omega)]; exact hda.out)
                  have H1 : Hid (∀ k, a ≤ k → k < i + 1 → swp d i j' k ≤ P) := (show ∀ k, a ≤ k → k < i + 1 → swp d i j' k ≤ P by
                    intro k h1 h2
                    unfold swp
                    by_cases e : k = i
                    · rw [if_pos e]; omega
                    · rw [if_neg e, if_neg (by omega)]; exact hlo.out k h1 (by omega))
                  have H2 : Hid (∀ k, j' - 1 < k → k < b → P < swp d i j' k) := (show ∀ k, j' - 1 < k → k < b → P < swp d i j' k by
                    intro k h1 h2
                    unfold swp
                    rw [if_neg (by omega)]
                    by_cases e : k = j'
                    · rw [if_pos e]; exact hli
                    · rw [if_neg e]; exact hhi'.out k (by omega) h2)
                  exact ⟨i + 1, j' - 1, swp d i j', by go_num, by go_num, by omega, by omega, by omega, Row.swap hr i j', hrp.trans (.one _ ⟨by omega, by omega⟩ ⟨by omega, by omega⟩), H0, H1, H2, grown_trans (grown_trans (grown_drew hg _) (grown_set _ _ _ _)) (grown_set _ _ _ _)⟩
                case measure => simp [intOf]; omega
              · have hdec : decide ((i : Int) ≤ (j' : Int)) = false := by simp; omega
                clear hgo
                go_wp2_with fail
                go_quiet (fail)
                go_wp2
                go_ret
                exact ⟨i, d, rfl, by omega, by omega, hr, hrp, fun k h1 h2 => by rw [← HP.out]; exact hlo.out k h1 h2, fun k h1 h2 => by rw [← HP.out]; exact hhi'.out k (by omega) h2, grown_drew hg _⟩
end Go.Proofs.Ytjlglfjikfpboaa.sorts

/- The library's sort at numbers of kind uint64, fifth part: parting a range at a number. -/

namespace Go.Proofs.Ytjlglfjikfpboaa.sorts
set_option linter.unusedVariables false
set_option linter.unusedSimpArgs false
open Go.RowKit Go.Proofs.Ytjlglfjikfpboaa.base Go.Proofs.Ytjlglfjikfpboaa.swaps

theorem part_end {a b j : Nat} {d : Nat → Int} {P : Int} (haj : a ≤ j) (h0 : d a = P) (h1 : ∀ k, a < k → k < j + 1 → d k < P) (h2 : ∀ k, j < k → k < b → P ≤ d k) :
    swp d j a j = P ∧ (∀ k, a ≤ k → k < j → swp d j a k < P) ∧ ∀ k, j < k → k < b → P ≤ swp d j a k := by
  refine ⟨by simp [swp, h0], fun k k1 k2 => ?_, fun k k1 k2 => ?_⟩
  · unfold swp
    rw [if_neg (by omega)]
    by_cases e : k = a
    · rw [if_pos e]; exact h1 j (by omega) (by omega)
    · rw [if_neg e]; exact h1 k (by omega) (by omega)
  · unfold swp
    rw [if_neg (by omega), if_neg (by omega)]
    exact h2 k k1 k2

set_option maxHeartbeats 20000000 in
set_option maxRecDepth 100000 in
theorem part_ok (g n c a b p : Nat) (d0 : Nat → Int) (w : World) (hrow : Row w g n d0) (hap : a ≤ p) (hpb : p < b) (hbn : b ≤ n) (hn : n ≤ 100000000) :
    Calls Try.prog 156 #[.slice (some ⟨g, 0, none⟩) n c, .int .i64 a, .int .i64 b, .int .i64 p] w fun e w' =>
      ∃ (m : Nat) (y : Bool) (d : Nat → Int), e = .returned (.tuple #[.int .i64 m, .bool y]) ∧ a ≤ m ∧ m < b ∧ Row w' g n d ∧ RP a b d0 d ∧ d m = d0 p ∧ (∀ k, a ≤ k → k < m → d k < d0 p) ∧ (∀ k, m < k → k < b → d0 p ≤ d k) ∧ w.grownBy w' (some g) := by
  have hca : w.cell? ⟨g, a, none⟩ = some (.int .u64 (d0 a)) := hrow.cell (by omega)
  have hcp : w.cell? ⟨g, p, none⟩ = some (.int .u64 (d0 p)) := hrow.cell (by omega)
  have hfa : w.frozen? ⟨g, a, none⟩ = false := hrow.frozen _
  have hfp : w.frozen? ⟨g, p, none⟩ = false := hrow.frozen _
  obtain ⟨v', hy'⟩ := cell?_setCell_some (w := w) (p := ⟨g, a, none⟩) (x := .int .u64 (d0 p)) (q := ⟨g, p, none⟩) hcp
  obtain ⟨P, hP⟩ : ∃ P, P = d0 p := ⟨_, rfl⟩
  have hda' : Hid (swp d0 a p a = P) := (by rw [hP]; simp [swp] : swp d0 a p a = P)
  have hrp' : RP a b d0 (swp d0 a p) := .one _ ⟨by omega, by omega⟩ ⟨by omega, by omega⟩
  have HP : Hid (P = d0 p) := hP
  clear hP
  go_enter Try.func156, Try.ntmps156
  go_wp2_with fail
  go_region
  go_wp2_with fail
  obtain ⟨d, hd⟩ : ∃ d, d = swp d0 a p := ⟨_, rfl⟩
  have hr : Row (((w.setCell ⟨g, a, none⟩ (.int .u64 (d0 p))).setCell ⟨g, p, none⟩ (.int .u64 (d0 a))).drew) g n d := by rw [hd]; exact Row.drew (Row.swap hrow a p)
  have hg : w.grownBy (((w.setCell ⟨g, a, none⟩ (.int .u64 (d0 p))).setCell ⟨g, p, none⟩ (.int .u64 (d0 a))).drew) (some g) := grown_drew (grown_trans (grown_set _ _ _ _) (grown_set _ _ _ _)) 1
  have hda : Hid (d a = P) := by rw [hd]; exact hda'
  have hrp : RP a b d0 d := by rw [hd]; exact hrp'
  have hlo : Hid (∀ k, a < k → k < a + 1 → d k < P) := (show ∀ k, a < k → k < a + 1 → d k < P by intro k h1 h2; omega)
  have hhi : Hid (∀ k, b - 1 < k → k < b → P ≤ d k) := (show ∀ k, b - 1 < k → k < b → P ≤ d k by intro k h1 h2; omega)
  obtain ⟨i0, hi0e⟩ : ∃ i0, i0 = a + 1 := ⟨_, rfl⟩
  obtain ⟨j, hje⟩ : ∃ j, j = b - 1 := ⟨_, rfl⟩
  have hi0 : a + 1 ≤ i0 := by omega
  have hij0 : i0 ≤ j + 1 := by omega
  have hjb : j < b := by omega
  have ei : (a : Int) + 1 = (i0 : Int) := by omega
  have ej : (b : Int) - 1 = (j : Int) := by omega
  rw [← hi0e] at hlo
  rw [← hje] at hhi
  rw [ei, ej]
  clear hda' hrp' hd hi0e hje ei ej hca hcp hfa hfp hy'
  go_loopw [10] (fun vi wr => ∃ i : Nat, vi = .int .i64 i ∧ i0 ≤ i ∧ i ≤ j + 1 ∧ Row wr g n d ∧ Hid (∀ k, a < k → k < i → d k < P) ∧ w.grownBy wr (some g)) (fun vi _ => j + 1 - (intOf vi).toNat)
  case atStart => exact ⟨i0, rfl, Nat.le_refl _, hij0, hr, hlo, hg⟩
  case round =>
    clear hr hlo hg
    obtain ⟨i, rfl, hi, hij, hr, hlo, hg⟩ := hrel
    have hca : wr.cell? ⟨g, a, none⟩ = some (.int .u64 P) := by rw [hr.cell (by omega), hda.out]
    by_cases hgo : i ≤ j ∧ d i < P
    · obtain ⟨hc, hl⟩ := hgo
      have hci : wr.cell? ⟨g, i, none⟩ = some (.int .u64 (d i)) := hr.cell (by omega)
      go_wp2_with fail
      go_quiet ((go_at_call 154; exact Calls.quiet_of_same (less_any _ _ _)))
      go_wp2
      go_roundw
      case rel =>
        have H1 : Hid (∀ k, a < k → k < i + 1 → d k < P) := (show ∀ k, a < k → k < i + 1 → d k < P by
          intro k h1 h2
          by_cases e : k = i
          · subst e; omega
          · exact hlo.out k h1 (by omega))
        exact ⟨i + 1, by go_num, by omega, by omega, hr, H1, grown_drew hg _⟩
      case measure => simp [intOf]; omega
    · have HST : Hid (j < i ∨ P ≤ d i) := (show j < i ∨ P ≤ d i by omega)
      by_cases hc : i ≤ j
      have hci : wr.cell? ⟨g, i, none⟩ = some (.int .u64 (d i)) := hr.cell (by omega)
      have hl : decide (d i < P) = false := by simp; omega
      clear hgo
      go_wp2_with fail
      go_quiet ((go_at_call 154; exact Calls.quiet_of_same (less_any _ _ _)))
      clear hci hl
      rotate_left
      have hdec : decide ((i : Int) ≤ (j : Int)) = false := by simp; omega
      clear hgo
      go_wp2_with fail
      go_quiet (fail)
      clear hdec
      all_goals
        clear hca hc
        go_wp2_with fail
        go_loopw [11] (fun vj wr => ∃ j' : Nat, vj = .int .i64 j' ∧ j' ≤ j ∧ i ≤ j' + 1 ∧ Row wr g n d ∧ Hid (∀ k, j' < k → k < b → P ≤ d k) ∧ w.grownBy wr (some g)) (fun vj _ => (intOf vj).toNat)
        case atStart => exact ⟨j, rfl, Nat.le_refl _, hij, hr, hhi, grown_drew hg _⟩
        case round =>
          clear hr hg
          obtain ⟨j', rfl, hj', hij', hr, hhi', hg⟩ := hrel
          have hca : wr.cell? ⟨g, a, none⟩ = some (.int .u64 P) := by rw [hr.cell (by omega), hda.out]
          have hcj : wr.cell? ⟨g, j', none⟩ = some (.int .u64 (d j')) := hr.cell (by omega)
          by_cases hgo : i ≤ j' ∧ P ≤ d j'
          · obtain ⟨hc, hl⟩ := hgo
            have hx : decide (d j' < P) = false := by simp; omega
            go_wp2_with fail
            go_quiet ((go_at_call 154; exact Calls.quiet_of_same (less_any _ _ _)))
            go_wp2
            go_roundw
            case rel =>
              have H1 : Hid (∀ k, j' - 1 < k → k < b → P ≤ d k) := (show ∀ k, j' - 1 < k → k < b → P ≤ d k by
                intro k h1 h2
                by_cases e : k = j'
                · subst e; omega
                · exact hhi'.out k (by omega) h2)
              exact ⟨j' - 1, by go_num, by omega, by omega, hr, H1, grown_drew hg _⟩
            case measure => simp [intOf]; omega
          · by_cases hc : i ≤ j'
            · have hl : d j' < P := by omega
              have hli : P ≤ d i := by have := HST.out; omega
              have hne : i < j' := by
                by_cases e : i = j'
                · subst e; omega
                · omega
              have hci : wr.cell? ⟨g, i, none⟩ = some (.int .u64 (d i)) := hr.cell (by omega)
              have hfi : wr.frozen? ⟨g, i, none⟩ = false := hr.frozen _
              have hfj : wr.frozen? ⟨g, j', none⟩ = false := hr.frozen _
              clear hgo
              go_wp2_with fail
              go_quiet ((go_at_call 154; exact Calls.quiet_of_same (less_any _ _ _)))
              go_wp2_with fail
              go_region
              have H0 : Hid (swp d i j' a = P) := (show swp d i j' a = P by unfold swp; rw [if_neg (by omega), if_neg (by omega)]; exact hda.out)
              have H1 : Hid (∀ k, a < k → k < i + 1 → swp d i j' k < P) := (show ∀ k, a < k → k < i + 1 → swp d i j' k < P by
                intro k h1 h2
                unfold swp
                by_cases e : k = i
                · rw [if_pos e]; omega
                · rw [if_neg e, if_neg (by omega)]; exact hlo.out k h1 (by omega))
              have H2 : Hid (∀ k, j' - 1 < k → k < b → P ≤ swp d i j' k) := (show ∀ k, j' - 1 < k → k < b → P ≤ swp d i j' k by
                intro k h1 h2
                unfold swp
                rw [if_neg (by omega)]
                by_cases e : k = j'
                · rw [if_pos e]; exact hli
                · rw [if_neg e]; exact hhi'.out k (by omega) h2)
              have HP2 : RP a b d0 (swp d i j') := hrp.trans (.one _ ⟨by omega, by omega⟩ ⟨by omega, by omega⟩)
              go_wp2_with fail
              go_loopw [10, 11] (fun vi vj wr => ∃ (i j : Nat) (d : Nat → Int), vi = .int .i64 i ∧ vj = .int .i64 j ∧ a + 1 ≤ i ∧ i ≤ j + 1 ∧ j < b ∧ Row wr g n d ∧ RP a b d0 d ∧ Hid (d a = P) ∧ Hid (∀ k, a < k → k < i → d k < P) ∧ Hid (∀ k, j < k → k < b → P ≤ d k) ∧ w.grownBy wr (some g)) (fun vi vj _ => (intOf vj + 1 - intOf vi).toNat)
              case atStart => exact ⟨i + 1, j' - 1, swp d i j', by go_num, by go_num, by omega, by omega, by omega, Row.swap hr i j', HP2, H0, H1, H2, grown_trans (grown_trans (grown_drew hg _) (grown_set _ _ _ _)) (grown_set _ _ _ _)⟩
              case round =>
                clear hr hrp hda hlo hhi hg hhi' HST  HP2 H0 H1 H2 hi hij hj' hij' hl hli hne hci hcj hca hfi hfj hc hi0 hij0 hjb
                obtain ⟨i0, j, d, rfl, rfl, hi0, hij0, hjb, hr, hrp, hda, hlo, hhi, hg⟩ := hrel
                go_wp2_with fail
                go_loopw [10] (fun vi wr => ∃ i : Nat, vi = .int .i64 i ∧ i0 ≤ i ∧ i ≤ j + 1 ∧ Row wr g n d ∧ Hid (∀ k, a < k → k < i → d k < P) ∧ w.grownBy wr (some g)) (fun vi _ => j + 1 - (intOf vi).toNat)
                case atStart => exact ⟨i0, rfl, Nat.le_refl _, hij0, hr, hlo, hg⟩
                case round =>
                  clear hr hlo hg
                  obtain ⟨i, rfl, hi, hij, hr, hlo, hg⟩ := hrel
                  have hca : wr.cell? ⟨g, a, none⟩ = some (.int .u64 P) := by rw [hr.cell (by omega), hda.out]
                  by_cases hgo : i ≤ j ∧ d i < P
                  · obtain ⟨hc, hl⟩ := hgo
                    have hci : wr.cell? ⟨g, i, none⟩ = some (.int .u64 (d i)) := hr.cell (by omega)
                    go_wp2_with fail
                    go_quiet ((go_at_call 154; exact Calls.quiet_of_same (less_any _ _ _)))
                    go_wp2
                    go_roundw
                    case rel =>
                      have H1 : Hid (∀ k, a < k → k < i + 1 → d k < P) := (show ∀ k, a < k → k < i + 1 → d k < P by
                        intro k h1 h2
                        by_cases e : k = i
                        · subst e; omega
                        · exact hlo.out k h1 (by omega))
                      exact ⟨i + 1, by go_num, by omega, by omega, hr, H1, grown_drew hg _⟩
                    case measure => simp [intOf]; omega
                  · have HST : Hid (j < i ∨ P ≤ d i) := (show j < i ∨ P ≤ d i by omega)
                    by_cases hc : i ≤ j
                    have hci : wr.cell? ⟨g, i, none⟩ = some (.int .u64 (d i)) := hr.cell (by omega)
                    have hl : decide (d i < P) = false := by simp; omega
                    clear hgo
                    go_wp2_with fail
                    go_quiet ((go_at_call 154; exact Calls.quiet_of_same (less_any _ _ _)))
                    clear hci hl
                    rotate_left
                    have hdec : decide ((i : Int) ≤ (j : Int)) = false := by simp; omega
                    clear hgo
                    go_wp2_with fail
                    go_quiet (fail)
                    clear hdec
                    all_goals
                      clear hca hc
                      go_wp2_with fail
                      go_loopw [11] (fun vj wr => ∃ j' : Nat, vj = .int .i64 j' ∧ j' ≤ j ∧ i ≤ j' + 1 ∧ Row wr g n d ∧ Hid (∀ k, j' < k → k < b → P ≤ d k) ∧ w.grownBy wr (some g)) (fun vj _ => (intOf vj).toNat)
                      case atStart => exact ⟨j, rfl, Nat.le_refl _, hij, hr, hhi, grown_drew hg _⟩
                      case round =>
                        clear hr hg
                        obtain ⟨j', rfl, hj', hij', hr, hhi', hg⟩ := hrel
                        have hca : wr.cell? ⟨g, a, none⟩ = some (.int .u64 P) := by rw [hr.cell (by omega), hda.out]
                        have hcj : wr.cell? ⟨g, j', none⟩ = some (.int .u64 (d j')) := hr.cell (by omega)
                        by_cases hgo : i ≤ j' ∧ P ≤ d j'
                        · obtain ⟨hc, hl⟩ := hgo
                          have hx : decide (d j' < P) = false := by simp; omega
                          go_wp2_with fail
                          go_quiet ((go_at_call 154; exact Calls.quiet_of_same (less_any _ _ _)))
                          go_wp2
                          go_roundw
                          case rel =>
                            have H1 : Hid (∀ k, j' - 1 < k → k < b → P ≤ d k) := (show ∀ k, j' - 1 < k → k < b → P ≤ d k by
                              intro k h1 h2
                              by_cases e : k = j'
                              · subst e; omega
                              · exact hhi'.out k (by omega) h2)
                            exact ⟨j' - 1, by go_num, by omega, by omega, hr, H1, grown_drew hg _⟩
                          case measure => simp [intOf]; omega
                        · by_cases hc : i ≤ j'
                          · have hl : d j' < P := by omega
                            have hli : P ≤ d i := by have := HST.out; omega
                            have hne : i < j' := by
                              by_cases e : i = j'
                              · subst e; omega
                              · omega
                            have hci : wr.cell? ⟨g, i, none⟩ = some (.int .u64 (d i)) := hr.cell (by omega)
                            have hfi : wr.frozen? ⟨g, i, none⟩ = false := hr.frozen _
                            have hfj : wr.frozen? ⟨g, j', none⟩ = false := hr.frozen _
                            clear hgo
                            go_wp2_with fail
                            go_quiet ((go_at_call 154; exact Calls.quiet_of_same (less_any _ _ _)))
                            go_wp2_with fail
                            go_region
                            have H0 : Hid (swp d i j' a = P) := (show swp d i j' a = P by unfold swp; rw [if_neg (by omega), if_neg (by omega)]; exact hda.out)
                            have H1 : Hid (∀ k, a < k → k < i + 1 → swp d i j' k < P) := (show ∀ k, a < k → k < i + 1 → swp d i j' k < P by
                              intro k h1 h2
                              unfold swp
                              by_cases e : k = i
                              · rw [if_pos e]; omega
                              · rw [if_neg e, if_neg (by omega)]; exact hlo.out k h1 (by omega))
                            have H2 : Hid (∀ k, j' - 1 < k → k < b → P ≤ swp d i j' k) := (show ∀ k, j' - 1 < k → k < b → P ≤ swp d i j' k by
                              intro k h1 h2
                              unfold swp
                              rw [if_neg (by omega)]
                              by_cases e : k = j'
                              · rw [if_pos e]; exact hli
                              · rw [if_neg e]; exact hhi'.out k (by omega) h2)
                            have HP2 : RP a b d0 (swp d i j') := hrp.trans (.one _ ⟨by omega, by omega⟩ ⟨by omega, by omega⟩)
                            go_wp2_with fail
                            go_roundw
                            case rel => exact ⟨i + 1, j' - 1, swp d i j', by go_num, by go_num, by omega, by omega, by omega, Row.swap hr i j', HP2, H0, H1, H2, grown_trans (grown_trans (grown_drew hg _) (grown_set _ _ _ _)) (grown_set _ _ _ _)⟩
                            case measure => simp [intOf]; omega
                          · have hdec : decide ((i : Int) ≤ (j' : Int)) = false := by simp; omega
                            have hca' : wr.cell? ⟨g, a, none⟩ = some (.int .u64 (d a)) := hr.cell (by omega)
                            have hfa : wr.frozen? ⟨g, a, none⟩ = false := hr.frozen _
                            have hfj : wr.frozen? ⟨g, j', none⟩ = false := hr.frozen _
                            have Q := part_end (show a ≤ j' by omega) hda.out (fun k h1 h2 => hlo.out k h1 (by omega)) (fun k h1 h2 => hhi'.out k h1 h2)
                            have HQ : Hid (swp d j' a j' = P ∧ (∀ k, a ≤ k → k < j' → swp d j' a k < P) ∧ ∀ k, j' < k → k < b → P ≤ swp d j' a k) := Q
                            clear hgo hca Q
                            by_cases hja : j' = a
                            · subst hja
                              clear hcj
                              go_wp2_with fail
                              go_quiet (fail)
                              go_wp2_with fail
                              go_region
                              go_wp2_with fail
                              go_ret2
                              exact ⟨_, _, swp d _ _, rfl, by omega, by omega, Row.swap hr _ _, hrp.trans (.one _ ⟨by omega, by omega⟩ ⟨by omega, by omega⟩), HP.out ▸ HQ.out.1, HP.out ▸ HQ.out.2.1, HP.out ▸ HQ.out.2.2, grown_trans (grown_trans (grown_drew hg _) (grown_set _ _ _ _)) (grown_set _ _ _ _)⟩
                            · have hja' : ¬ a = j' := fun e => hja e.symm
                              go_wp2_with fail
                              go_quiet (fail)
                              go_wp2_with fail
                              go_region
                              go_wp2_with fail
                              go_ret2
                              exact ⟨_, _, swp d _ _, rfl, by omega, by omega, Row.swap hr _ _, hrp.trans (.one _ ⟨by omega, by omega⟩ ⟨by omega, by omega⟩), HP.out ▸ HQ.out.1, HP.out ▸ HQ.out.2.1, HP.out ▸ HQ.out.2.2, grown_trans (grown_trans (grown_drew hg _) (grown_set _ _ _ _)) (grown_set _ _ _ _)⟩
            · have hdec : decide ((i : Int) ≤ (j' : Int)) = false := by simp; omega
              have hca' : wr.cell? ⟨g, a, none⟩ = some (.int .u64 (d a)) := hr.cell (by omega)
              have hfa : wr.frozen? ⟨g, a, none⟩ = false := hr.frozen _
              have hfj : wr.frozen? ⟨g, j', none⟩ = false := hr.frozen _
              have Q := part_end (show a ≤ j' by omega) hda.out (fun k h1 h2 => hlo.out k h1 (by omega)) (fun k h1 h2 => hhi'.out k h1 h2)
              have HQ : Hid (swp d j' a j' = P ∧ (∀ k, a ≤ k → k < j' → swp d j' a k < P) ∧ ∀ k, j' < k → k < b → P ≤ swp d j' a k) := Q
              clear hgo hca Q
              by_cases hja : j' = a
              · subst hja
                clear hcj
                go_wp2_with fail
                go_quiet (fail)
                go_wp2_with fail
                go_region
                go_wp2_with fail
                go_ret2
                exact ⟨_, _, swp d _ _, rfl, by omega, by omega, Row.swap hr _ _, hrp.trans (.one _ ⟨by omega, by omega⟩ ⟨by omega, by omega⟩), HP.out ▸ HQ.out.1, HP.out ▸ HQ.out.2.1, HP.out ▸ HQ.out.2.2, grown_trans (grown_trans (grown_drew hg _) (grown_set _ _ _ _)) (grown_set _ _ _ _)⟩
              · have hja' : ¬ a = j' := fun e => hja e.symm
                go_wp2_with fail
                go_quiet (fail)
                go_wp2_with fail
                go_region
                go_wp2_with fail
                go_ret2
                exact ⟨_, _, swp d _ _, rfl, by omega, by omega, Row.swap hr _ _, hrp.trans (.one _ ⟨by omega, by omega⟩ ⟨by omega, by omega⟩), HP.out ▸ HQ.out.1, HP.out ▸ HQ.out.2.1, HP.out ▸ HQ.out.2.2, grown_trans (grown_trans (grown_drew hg _) (grown_set _ _ _ _)) (grown_set _ _ _ _)⟩
end Go.Proofs.Ytjlglfjikfpboaa.sorts

/- The library's sort at numbers of kind uint64, sixth part: which number to part at. -/

namespace Go.Proofs.Ytjlglfjikfpboaa.sorts
set_option linter.unusedVariables false
set_option linter.unusedSimpArgs false
open Go.RowKit Go.Proofs.Ytjlglfjikfpboaa.base Go.Proofs.Ytjlglfjikfpboaa.swaps

/-- block s holds one number of kind int -/
def Cnt (w : World) (s : Nat) : Prop := ∃ k : Int, Blk w s 3 #[.int .i64 k]
theorem Cnt.lt {w : World} {s : Nat} (h : Cnt w s) : s < w.heap.size := by obtain ⟨k, hk⟩ := h; exact hk.lt

set_option maxRecDepth 100000 in
theorem order_ok (g n c s a b : Nat) (d : Nat → Int) (w : World) (hrow : Row w g n d) (hs : Cnt w s) (hgs : g ≠ s) (ha : a < n) (hb : b < n) :
    Calls Try.prog 179 #[.slice (some ⟨g, 0, none⟩) n c, .int .i64 a, .int .i64 b, .pointer (some ⟨s, 0, none⟩)] w fun e w' =>
      ∃ x y : Nat, e = .returned (.tuple #[.int .i64 x, .int .i64 y]) ∧ ((x = a ∧ y = b) ∨ (x = b ∧ y = a)) ∧ Cnt w' s ∧ Row w' g n d ∧ w.grownBy w' (some s) := by
  have hca : w.cell? ⟨g, a, none⟩ = some (.int .u64 (d a)) := hrow.cell (by omega)
  have hcb : w.cell? ⟨g, b, none⟩ = some (.int .u64 (d b)) := hrow.cell (by omega)
  obtain ⟨k, hk⟩ := hs
  have hck : w.cell? ⟨s, 0, none⟩ = some (.int .i64 k) := by rw [hk.cell]; rfl
  have hfk : w.frozen? ⟨s, 0, none⟩ = false := hk.frozen 0
  by_cases hlt : d b < d a
  · go_enter Try.func179, Try.ntmps179
    go_wp2_with fail
    go_quiet ((go_at_call 154; exact Calls.quiet_of_same (less_any _ _ _)))
    go_wp2
    go_ret2
    exact ⟨b, a, rfl, .inr ⟨rfl, rfl⟩, ⟨_, hk.put 0 _⟩, hrow.keep (Below.heap_setCell _ _ _ _ hgs), grown_trans (grown_drew (World.grownBy.refl _ _) _) (grown_set _ _ _ _)⟩
  · go_enter Try.func179, Try.ntmps179
    go_wp2_with fail
    go_quiet ((go_at_call 154; exact Calls.quiet_of_same (less_any _ _ _)))
    go_wp2
    go_ret2
    exact ⟨a, b, rfl, .inl ⟨rfl, rfl⟩, ⟨_, hk⟩, hrow, grown_drew (World.grownBy.refl _ _) _⟩

set_option maxRecDepth 100000 in
theorem median_ok (g n c s x y z lo hi : Nat) (d : Nat → Int) (w : World) (hrow : Row w g n d) (hs : Cnt w s) (hgs : g ≠ s) (hx : lo ≤ x ∧ x < hi) (hy : lo ≤ y ∧ y < hi) (hz : lo ≤ z ∧ z < hi) (hh : hi ≤ n) :
    Calls Try.prog 171 #[.slice (some ⟨g, 0, none⟩) n c, .int .i64 x, .int .i64 y, .int .i64 z, .pointer (some ⟨s, 0, none⟩)] w fun e w' =>
      ∃ m : Nat, e = .returned (.int .i64 m) ∧ lo ≤ m ∧ m < hi ∧ Cnt w' s ∧ Row w' g n d ∧ w.grownBy w' (some s) := by
  go_enter Try.func171, Try.ntmps171
  go_wp2_with fail
  refine (order_ok g n c s x y d _ hrow hs hgs (by omega) (by omega)).mono ?_
  rintro e w1 ⟨x1, y1, rfl, h1, hs1, hr1, hg1⟩
  go_wp2_with fail
  refine (order_ok g n c s _ _ d _ hr1 hs1 hgs (by omega) (by omega)).mono ?_
  rintro e w2 ⟨x2, y2, rfl, h2, hs2, hr2, hg2⟩
  go_wp2_with fail
  refine (order_ok g n c s _ _ d _ hr2 hs2 hgs (by omega) (by omega)).mono ?_
  rintro e w3 ⟨x3, y3, rfl, h3, hs3, hr3, hg3⟩
  go_wp2_with fail
  go_ret
  exact ⟨y3, rfl, by omega, by omega, hs3, hr3, grown_trans (grown_trans hg1 hg2) hg3⟩

set_option maxRecDepth 100000 in
theorem adjacent_ok (g n c s x lo hi : Nat) (d : Nat → Int) (w : World) (hrow : Row w g n d) (hs : Cnt w s) (hgs : g ≠ s) (hx : lo < x ∧ x + 1 < hi) (hh : hi ≤ n) (hn : n ≤ 100000000) :
    Calls Try.prog 170 #[.slice (some ⟨g, 0, none⟩) n c, .int .i64 x, .pointer (some ⟨s, 0, none⟩)] w fun e w' =>
      ∃ m : Nat, e = .returned (.int .i64 m) ∧ lo ≤ m ∧ m < hi ∧ Cnt w' s ∧ Row w' g n d ∧ w.grownBy w' (some s) := by
  have hc := median_ok g n c s (x - 1) x (x + 1) lo hi d w hrow hs hgs (by omega) (by omega) (by omega) hh
  rw [show ((x - 1 : Nat) : Int) = (x : Int) - 1 by omega, show ((x + 1 : Nat) : Int) = (x : Int) + 1 by omega] at hc
  go_enter Try.func170, Try.ntmps170
  go_wp2_with (go_at_call 171; ((with_reducible refine hc.mono ?_); rintro e w1 ⟨m, rfl, h1, h2, hs1, hr1, hg1⟩))
  go_ret
  exact ⟨m, rfl, h1, h2, hs1, hr1, hg1⟩

theorem pivot_end {w w1 w2 : World} {g n : Nat} {d : Nat → Int} {o : Obj} (hb : w1 = w.alloc o) (hg : w1.grownBy w2 (some w.heap.size)) (hr : Row w2 g n d) : Row w2 g n d ∧ Below w.heap.size w w2 := by
  subst hb
  exact ⟨hr, ((Below.refl _ w).alloc (Nat.le_refl _) _).grown hg (by simp) (by simp)⟩

set_option maxHeartbeats 1000000 in
set_option maxRecDepth 100000 in
theorem pivot_ok (g n c a b : Nat) (d : Nat → Int) (w : World) (hrow : Row w g n d) (hab : a + 8 ≤ b) (hbn : b ≤ n) (hn : n ≤ 100000000) :
    Calls Try.prog 151 #[.slice (some ⟨g, 0, none⟩) n c, .int .i64 a, .int .i64 b] w fun e w' =>
      ∃ (m : Nat) (h : Int), e = .returned (.tuple #[.int .i64 m, .int .i64 h]) ∧ a ≤ m ∧ m < b ∧ Row w' g n d ∧ Below w.heap.size w w' := by
  obtain ⟨q, hq⟩ : ∃ q : Nat, ((b : Int) - (a : Int)) / 4 = (q : Int) := ⟨(b - a) / 4, by omega⟩
  have hq1 : 4 * q ≤ b - a := by omega
  have hq2 : b - a < 4 * q + 4 := by omega
  have hs0 : Cnt (w.alloc (.cells #[.int .i64 0] 3)) w.heap.size := ⟨0, Blk.new w _ _⟩
  have hgs : g ≠ w.heap.size := by have := hrow.lt; omega
  have hr0 : Row (w.alloc (.cells #[.int .i64 0] 3)) g n d := hrow.keep (Below.heap_alloc w _ g hrow.lt)
  by_cases h50 : 50 ≤ b - a
  · have c1 := fun (W : World) (hW : Row W g n d) (hs : Cnt W w.heap.size) => adjacent_ok g n c w.heap.size (a + q) a b d W hW hs hgs (by omega) hbn hn
    have c2 := fun (W : World) (hW : Row W g n d) (hs : Cnt W w.heap.size) => adjacent_ok g n c w.heap.size (a + q * 2) a b d W hW hs hgs (by omega) hbn hn
    have c3 := fun (W : World) (hW : Row W g n d) (hs : Cnt W w.heap.size) => adjacent_ok g n c w.heap.size (a + q * 3) a b d W hW hs hgs (by omega) hbn hn
    rw [show ((a + q : Nat) : Int) = (a : Int) + (q : Int) by omega] at c1
    rw [show ((a + q * 2 : Nat) : Int) = (a : Int) + (q : Int) * 2 by omega] at c2
    rw [show ((a + q * 3 : Nat) : Int) = (a : Int) + (q : Int) * 3 by omega] at c3
    go_enter Try.func151, Try.ntmps151
    go_wp2_with fail
    refine (c1 _ hr0 hs0).mono ?_
    rintro e w1 ⟨m1, rfl, a1, b1, hs1, hr1, hg1⟩
    go_wp2_with fail
    refine (c2 _ hr1 hs1).mono ?_
    rintro e w2 ⟨m2, rfl, a2, b2, hs2, hr2, hg2⟩
    go_wp2_with fail
    refine (c3 _ hr2 hs2).mono ?_
    rintro e w3 ⟨m3, rfl, a3, b3, hs3, hr3, hg3⟩
    go_wp2_with fail
    refine (median_ok g n c w.heap.size m1 m2 m3 a b d _ hr3 hs3 hgs ⟨a1, b1⟩ ⟨a2, b2⟩ ⟨a3, b3⟩ hbn).mono ?_
    rintro e w4 ⟨m4, rfl, a4, b4, hs4, hr4, hg4⟩
    obtain ⟨k, hk⟩ := hs4
    have hck : w4.cell? ⟨w.heap.size, 0, none⟩ = some (.int .i64 k) := by rw [hk.cell]; rfl
    have HE := pivot_end rfl (grown_trans (grown_trans (grown_trans hg1 hg2) hg3) hg4) hr4
    clear c1 c2 c3 hk hs0 hs1 hs2 hs3 hr0 hr1 hr2 hr3 hg1 hg2 hg3 hg4
    go_wp2
    all_goals go_ret2
    all_goals exact ⟨m4, _, rfl, a4, b4, HE.1, HE.2⟩
  · have c4 := median_ok g n c w.heap.size (a + q) (a + q * 2) (a + q * 3) a b d _ hr0 hs0 hgs (by omega) (by omega) (by omega) hbn
    rw [show ((a + q : Nat) : Int) = (a : Int) + (q : Int) by omega, show ((a + q * 2 : Nat) : Int) = (a : Int) + (q : Int) * 2 by omega, show ((a + q * 3 : Nat) : Int) = (a : Int) + (q : Int) * 3 by omega] at c4
    go_enter Try.func151, Try.ntmps151
    go_wp2_with fail
    refine c4.mono ?_
    rintro e w4 ⟨m4, rfl, a4, b4, hs4, hr4, hg4⟩
    obtain ⟨k, hk⟩ := hs4
    have hck : w4.cell? ⟨w.heap.size, 0, none⟩ = some (.int .i64 k) := by rw [hk.cell]; rfl
    have HE := pivot_end rfl hg4 hr4
    clear hk hs0 hr0 hg4
    go_wp2
    all_goals go_ret2
    all_goals exact ⟨m4, _, rfl, a4, b4, HE.1, HE.2⟩
end Go.Proofs.Ytjlglfjikfpboaa.sorts

/- The library's sort at numbers of kind uint64, seventh part: patterns broken. -/

namespace Go.Proofs.Ytjlglfjikfpboaa.sorts
set_option linter.unusedVariables false
set_option linter.unusedSimpArgs false
open Go.RowKit Go.Proofs.Ytjlglfjikfpboaa.base Go.Proofs.Ytjlglfjikfpboaa.swaps

/-- block s holds one number of kind uint64 -/
def Rnd (w : World) (s : Nat) : Prop := ∃ k : Int, (Lit.int .u64 k).wf = true ∧ Blk w s 212 #[.int .u64 k]
theorem Rnd.drew {w : World} {s : Nat} (h : Rnd w s) : Rnd w.drew s := h

theorem rnd_put {w v : World} {s : Nat} {k0 k y : Int} (hk : Blk w s 212 #[.int .u64 k0]) (hg : v.grownBy w (some s)) :
    ∃ x : Int, Blk (w.setCell ⟨s, 0, none⟩ (.int .u64 (bits BinOp.xor IntKind.u64 k y))).drew s 212 #[.int .u64 x] ∧ (Lit.int .u64 x).wf = true ∧
      v.grownBy (w.setCell ⟨s, 0, none⟩ (.int .u64 (bits BinOp.xor IntKind.u64 k y))).drew (some s) :=
  ⟨_, (hk.put 0 _).drew, wf_bits _ _ _ _, grown_drew (grown_trans hg (grown_set _ _ _ _)) 1⟩

set_option maxHeartbeats 1000000 in
set_option maxRecDepth 100000 in
theorem rnd_ok (s : Nat) (w : World) (hs : Rnd w s) :
    Calls Try.prog 162 #[.pointer (some ⟨s, 0, none⟩)] w fun e w' => ∃ x : Nat, e = .returned (.int .u64 (x : Int)) ∧ x < 18446744073709551616 ∧ Rnd w' s ∧ w.grownBy w' (some s) := by
  obtain ⟨k, h0, hk⟩ := hs
  have hck : w.cell? ⟨s, 0, none⟩ = some (.int .u64 k) := by rw [hk.cell]; rfl
  have hfk : w.frozen? ⟨s, 0, none⟩ = false := hk.frozen 0
  go_enter Try.func162, Try.ntmps162
  go_wp2
  go_region
  generalize hW1 : (w.setCell ⟨s, 0, none⟩ _).drew = W1
  obtain ⟨k1, hk1, hw1, hg1⟩ : ∃ x : Int, Blk W1 s 212 #[.int .u64 x] ∧ (Lit.int .u64 x).wf = true ∧ w.grownBy W1 (some s) := by
    rw [← hW1]; exact rnd_put hk (World.grownBy.refl _ _)
  clear hW1 hck hfk hk
  have hck : W1.cell? ⟨s, 0, none⟩ = some (.int .u64 k1) := by rw [hk1.cell]; rfl
  have hfk : W1.frozen? ⟨s, 0, none⟩ = false := hk1.frozen 0
  go_wp2
  go_region
  generalize hW2 : (W1.setCell ⟨s, 0, none⟩ _).drew = W2
  obtain ⟨k2, hk2, hw2, hg2⟩ : ∃ x : Int, Blk W2 s 212 #[.int .u64 x] ∧ (Lit.int .u64 x).wf = true ∧ w.grownBy W2 (some s) := by
    rw [← hW2]; exact rnd_put hk1 hg1
  clear hW2 hck hfk hk1 hg1
  have hck : W2.cell? ⟨s, 0, none⟩ = some (.int .u64 k2) := by rw [hk2.cell]; rfl
  have hfk : W2.frozen? ⟨s, 0, none⟩ = false := hk2.frozen 0
  go_wp2
  go_region
  generalize hW3 : (W2.setCell ⟨s, 0, none⟩ _).drew = W3
  obtain ⟨k3, hk3, hw3, hg3⟩ : ∃ x : Int, Blk W3 s 212 #[.int .u64 x] ∧ (Lit.int .u64 x).wf = true ∧ w.grownBy W3 (some s) := by
    rw [← hW3]; exact rnd_put hk2 hg2
  clear hW3 hck hfk hk2 hg2
  have hck : W3.cell? ⟨s, 0, none⟩ = some (.int .u64 k3) := by rw [hk3.cell]; rfl
  go_wp2
  go_ret
  have hb := bounds_u64 hw3
  obtain ⟨x, hx⟩ := Int.eq_ofNat_of_zero_le hb.1
  refine ⟨x, by rw [← hx]; rfl, by omega, ⟨k3, hw3, hk3⟩, hg3⟩

theorem power_ok (m : Nat) (w : World) (hm : 1 ≤ m) (hn : m ≤ 100000000) :
    Calls Try.prog 161 #[.int .i64 m] w fun e w' => ∃ M : Nat, e = .returned (.int .u64 ((M + 1 : Nat) : Int)) ∧ M + 1 ≤ 2 * m ∧ w = w' := by
  obtain ⟨b1, b2, b3⟩ := Lib.bitLenAux_bounds 64 m (by omega) (by omega)
  have b4 : Lib.bitLen m ≤ 27 := Lib.bitLen_le m 27 (by omega) (by omega)
  obtain ⟨L, hL⟩ : ∃ L, L = Lib.bitLen m := ⟨_, rfl⟩
  have hc := Try.bits_Len (m : Int) w (by omega) (by omega)
  rw [Int.toNat_natCast, ← hL] at hc
  change 1 ≤ Lib.bitLen m at b1
  change 2 ^ (Lib.bitLen m - 1) ≤ m at b2
  rw [← hL] at b1 b2 b4
  clear hL b3
  have hp : 2 ^ L = 2 * 2 ^ (L - 1) := by
    obtain ⟨l, rfl⟩ : ∃ l, L = l + 1 := ⟨L - 1, by omega⟩
    rw [Nat.pow_succ, Nat.add_sub_cancel]; omega
  have hpos : 0 < 2 ^ (L - 1) := Nat.two_pow_pos _
  have hz : IntKind.u64.wrap (2 ^ L) = ((2 ^ L - 1 + 1 : Nat) : Int) := by
    rw [show ((2 : Int) ^ L) = ((2 ^ L : Nat) : Int) by norm_cast, IntKind.wrap_u64]
    omega
  have HZ : Hid (IntKind.u64.wrap (2 ^ L) = ((2 ^ L - 1 + 1 : Nat) : Int)) := hz
  have H2 : Hid (2 ^ L - 1 + 1 ≤ 2 * m) := (show 2 ^ L - 1 + 1 ≤ 2 * m by omega)
  clear hz hp hpos b2
  go_enter Try.func161, Try.ntmps161
  go_wp2_with (go_at_call 100; ((with_reducible refine hc.mono ?_); rintro e w1 ⟨rfl, rfl⟩))
  go_ret
  exact ⟨2 ^ L - 1, by rw [← HZ.out]; rfl, H2.out, rfl⟩

theorem and_le (x M : Nat) (hx : x < 18446744073709551616) (hM : M < 18446744073709551616) : ∃ y : Nat, bits BinOp.and IntKind.u64 (x : Int) (M : Int) = (y : Int) ∧ y ≤ M :=
  ⟨x &&& M, bits_and_u64_nat x M hx hM, Nat.and_le_right⟩

set_option maxHeartbeats 2000000 in
set_option maxRecDepth 100000 in
theorem break_ok (g n c a b : Nat) (d0 : Nat → Int) (w : World) (hrow : Row w g n d0) (hab : a + 8 ≤ b) (hbn : b ≤ n) (hn : n ≤ 100000000) :
    Calls Try.prog 150 #[.slice (some ⟨g, 0, none⟩) n c, .int .i64 a, .int .i64 b] w fun e w' =>
      e = .returned (.tuple #[]) ∧ ∃ d, Row w' g n d ∧ RP a b d0 d ∧ w.grownBy w' (some g) := by
  obtain ⟨l, hl⟩ : ∃ l : Nat, (b : Int) - (a : Int) = (l : Int) := ⟨b - a, by omega⟩
  obtain ⟨q, hq⟩ : ∃ q : Nat, (l : Int) / 4 = (q : Int) := ⟨l / 4, by omega⟩
  have hl8 : 8 ≤ l := by omega
  have hq1 : 4 * q ≤ l := by omega
  have hq2 : l < 4 * q + 4 := by omega
  have hbl : a + l ≤ b := by omega
  have hp := power_ok l (w.alloc (.cells #[.int .u64 l] 212)) (by omega) (by omega)
  have hlt := hrow.lt
  have hr0 : Row (w.alloc (.cells #[.int .u64 l] 212)) g n d0 := hrow.keep (Below.heap_alloc w _ g hrow.lt)
  have hs0 : Rnd (w.alloc (.cells #[.int .u64 l] 212)) w.heap.size := ⟨l, by simp [Lit.wf, IntKind.min, IntKind.max, IntKind.signed, IntKind.bits]; omega, Blk.new w _ _⟩
  go_enter Try.func150, Try.ntmps150
  go_wp2_with (go_at_call 161; ((with_reducible refine hp.mono ?_); rintro e w1 ⟨M, rfl, hM, rfl⟩))
  go_loopw [9] (fun vi wr => ∃ (k : Nat) (d : Nat → Int), vi = .int .i64 k ∧ a + q * 2 ≤ k + 1 ∧ k ≤ a + q * 2 + 2 ∧ Row wr g n d ∧ RP a b d0 d ∧ Rnd wr w.heap.size ∧ w.grownBy wr (some g)) (fun vi _ => a + q * 2 + 2 - (intOf vi).toNat)
  case atStart => exact ⟨a + q * 2 - 1, d0, by go_num, by omega, by omega, hr0, .refl, hs0, World.grownBy_alloc _ _ _⟩
  case round =>
    obtain ⟨k, d, rfl, hk1, hk2, hr, hrp, hrnd, hg⟩ := hrel
    clear hr0 hs0 hp
    by_cases hin : k ≤ a + q * 2 + 1
    · go_wp2_with fail
      refine (rnd_ok w.heap.size wr hrnd).mono ?_
      rintro e w2 ⟨x, rfl, hx, hrnd2, hg2⟩
      obtain ⟨y, hand, hyM⟩ := and_le x M hx (by omega)
      have hr2 : Row w2 g n d := hr.keep (hg2.block g hr.lt (by simp; omega))
      have hg2' : w.grownBy w2 (some g) := grown_new hg hg2 (Nat.le_refl _)
      clear hr hg hg2 hrnd
      by_cases hyl : y < l
      · have hck : w2.cell? ⟨g, k, none⟩ = some (.int .u64 (d k)) := hr2.cell (by omega)
        have hcy : w2.cell? ⟨g, a + y, none⟩ = some (.int .u64 (d (a + y))) := hr2.cell (by omega)
        have hfk : w2.frozen? ⟨g, k, none⟩ = false := hr2.frozen _
        have hfy : w2.frozen? ⟨g, a + y, none⟩ = false := hr2.frozen _
        obtain ⟨v', hy'⟩ := cell?_setCell_some (w := w2) (p := ⟨g, k, none⟩) (x := .int .u64 (d (a + y))) (q := ⟨g, a + y, none⟩) hcy
        have v0 : IntKind.i64.wrap ((a : Int) + (y : Int)) = (a : Int) + (y : Int) := IntWalk.i64_in _ (by omega)
        go_wp2_with fail
        go_region
        go_wp2_with fail
        go_roundw
        case rel => exact ⟨k + 1, swp d k (a + y), by go_num, by omega, by omega, (Row.swap hr2 k (a + y)).drew, hrp.trans (.one _ ⟨by omega, by omega⟩ ⟨by omega, by omega⟩), ⟨hrnd2.choose, hrnd2.choose_spec.1, ((hrnd2.choose_spec.2.far (by simp; omega) _).far (by simp; omega) _).drew⟩, grown_drew (grown_trans (grown_trans hg2' (grown_set _ _ _ _)) (grown_set _ _ _ _)) 1⟩
        case measure => simp [intOf]; omega
      · obtain ⟨z, hz⟩ : ∃ z : Nat, (y : Int) - (l : Int) = (z : Int) := ⟨y - l, by omega⟩
        have hzl : z < l := by omega
        have hck : w2.cell? ⟨g, k, none⟩ = some (.int .u64 (d k)) := hr2.cell (by omega)
        have hcy : w2.cell? ⟨g, a + z, none⟩ = some (.int .u64 (d (a + z))) := hr2.cell (by omega)
        have hfk : w2.frozen? ⟨g, k, none⟩ = false := hr2.frozen _
        have hfy : w2.frozen? ⟨g, a + z, none⟩ = false := hr2.frozen _
        obtain ⟨v', hy'⟩ := cell?_setCell_some (w := w2) (p := ⟨g, k, none⟩) (x := .int .u64 (d (a + z))) (q := ⟨g, a + z, none⟩) hcy
        have v0 : IntKind.i64.wrap ((a : Int) + (z : Int)) = (a : Int) + (z : Int) := IntWalk.i64_in _ (by omega)
        go_wp2_with fail
        go_region
        go_wp2_with fail
        go_roundw
        case rel => exact ⟨k + 1, swp d k (a + z), by go_num, by omega, by omega, (Row.swap hr2 k (a + z)).drew, hrp.trans (.one _ ⟨by omega, by omega⟩ ⟨by omega, by omega⟩), ⟨hrnd2.choose, hrnd2.choose_spec.1, ((hrnd2.choose_spec.2.far (by simp; omega) _).far (by simp; omega) _).drew⟩, grown_drew (grown_trans (grown_trans hg2' (grown_set _ _ _ _)) (grown_set _ _ _ _)) 1⟩
        case measure => simp [intOf]; omega
    · go_wp2
      first | go_end0 | refine bodyPost_ret (results_none rfl _ _ _) rfl ?_
      exact ⟨rfl, d, hr, hrp, hg⟩
end Go.Proofs.Ytjlglfjikfpboaa.sorts

/- The library's sort at numbers of kind uint64, eighth part: a few steps of insertion. -/

namespace Go.Proofs.Ytjlglfjikfpboaa.sorts
set_option linter.unusedVariables false
set_option linter.unusedSimpArgs false
open Go.RowKit Go.Proofs.Ytjlglfjikfpboaa.base Go.Proofs.Ytjlglfjikfpboaa.swaps

/-- what lies ahead of the range is no greater than what lies in it -/
def Ahead (a b : Nat) (d : Nat → Int) : Prop := a = 0 ∨ ∀ k, a ≤ k → k < b → d (a - 1) ≤ d k
theorem Ahead.turned {a b a' b' : Nat} {d e : Nat → Int} (h : Ahead a b d) (hp : RP a' b' d e) (ha : a ≤ a') (hb : b' ≤ b) : Ahead a b e := by
  rcases h with h | h
  · exact .inl h
  · by_cases h0 : a = 0
    · exact .inl h0
    · refine .inr fun k h1 h2 => ?_
      rw [hp.out (k := a - 1) (by omega)]
      exact (hp.wide ha hb).all (P := fun x => d (a - 1) ≤ x) h k h1 h2
theorem sorted_swap_above {a i q p : Nat} {d : Nat → Int} (h : Hid (Sorted a i d)) (hq : i ≤ q) (hp : i ≤ p) : Hid (Sorted a i (swp d q p)) :=
  (show Sorted a i (swp d q p) from fun x y h1 h2 h3 => by
    unfold swp
    rw [if_neg (by omega), if_neg (by omega), if_neg (by omega), if_neg (by omega)]
    exact h.out x y h1 h2 h3)
theorem hole_first {a i : Nat} {d : Nat → Int} (h : Hid (Sorted a i d)) (hi : a < i) : Hid (Hole a (i - 1) (i - 1) (swp d i (i - 1))) :=
  (show Hole a (i - 1) (i - 1) (swp d i (i - 1)) from .start fun x y h1 h2 h3 => by
    unfold swp
    rw [if_neg (by omega), if_neg (by omega), if_neg (by omega), if_neg (by omega)]
    exact h.out x y h1 h2 (by omega))
theorem hole_done {a i j : Nat} {d : Nat → Int} (h : Hid (Hole a (i - 1) j d)) (hi : a < i) (hj : j ≤ a ∨ d (j - 1) ≤ d j) : Hid (Sorted a i d) := by
  have := h.out.done hj
  rw [show i - 1 + 1 = i by omega] at this
  exact this
theorem sorted_next {a i : Nat} {d : Nat → Int} (h : Hid (Sorted a i d)) (hi : a < i) (hle : d (i - 1) ≤ d i) : Hid (Sorted a (i + 1) d) :=
  (show Sorted a (i + 1) d from fun x y h1 h2 h3 => by
    by_cases e : y = i
    · subst e
      by_cases e2 : x = y - 1
      · rw [e2]; exact hle
      · have := h.out x (y - 1) h1 (by omega) (by omega); omega
    · exact h.out x y h1 h2 (by omega))

set_option maxHeartbeats 10000000 in
set_option maxRecDepth 100000 in
theorem partial_ok (g n c a b : Nat) (d0 : Nat → Int) (w : World) (hrow : Row w g n d0) (hab : a < b) (hbn : b ≤ n) (hn : n ≤ 100000000) (hah : Ahead a b d0) :
    Calls Try.prog 153 #[.slice (some ⟨g, 0, none⟩) n c, .int .i64 a, .int .i64 b] w fun e w' =>
      ∃ (y : Bool) (d : Nat → Int), e = .returned (.bool y) ∧ Row w' g n d ∧ RP a b d0 d ∧ (y = true → Sorted a b d) ∧ w.grownBy w' (some g) := by
  have HA : Hid (Ahead a b d0) := hah
  clear hah
  go_enter Try.func153, Try.ntmps153
  go_wp2_with fail
  go_loopw [7, 8] (fun vi vj wr => ∃ (i k : Nat) (d : Nat → Int), vi = .int .i64 i ∧ vj = .int .i64 k ∧ k ≤ 5 ∧ a + 1 ≤ i ∧ i ≤ b ∧ Row wr g n d ∧ RP a b d0 d ∧ Hid (Sorted a i d) ∧ w.grownBy wr (some g)) (fun _ vj _ => 5 - (intOf vj).toNat)
  case atStart => exact ⟨a + 1, 0, d0, by go_num, rfl, by omega, by omega, by omega, hrow, .refl, (show Sorted a (a + 1) d0 from fun p q h1 h2 h3 => by omega), World.grownBy.refl _ _⟩
  case round =>
    obtain ⟨i0, k, d, rfl, rfl, hk, hi1, hi2, hr, hrp, hso, hg⟩ := hrel
    by_cases hk5 : k < 5
    · have hk5' : decide ((k : Int) < 5) = true := by simp; omega
      go_wp2_with fail
      go_loopw [7] (fun vi wr => ∃ i : Nat, vi = .int .i64 i ∧ a + 1 ≤ i ∧ i ≤ b ∧ Row wr g n d ∧ Hid (Sorted a i d) ∧ w.grownBy wr (some g)) (fun vi _ => b - (intOf vi).toNat)
      case atStart => exact ⟨i0, rfl, hi1, hi2, hr, hso, hg⟩
      case round =>
        clear hr hso hg hi1 hi2
        obtain ⟨i, rfl, hi1, hi2, hr, hso, hg⟩ := hrel
        by_cases hib : i < b
        · have hci : wr.cell? ⟨g, i, none⟩ = some (.int .u64 (d i)) := hr.cell (by omega)
          have hcp : wr.cell? ⟨g, i - 1, none⟩ = some (.int .u64 (d (i - 1))) := hr.cell (by omega)
          by_cases hlt : d i < d (i - 1)
          · go_wp2_with fail
            go_quiet ((go_at_call 154; exact Calls.quiet_of_same (less_any _ _ _)))
            by_cases h50 : b - a < 50
            · go_wp2
              go_ret
              exact ⟨false, d, rfl, hr, hrp, (fun h => by cases h), grown_drew hg _⟩
            · have hfi : wr.frozen? ⟨g, i, none⟩ = false := hr.frozen _
              have hfp : wr.frozen? ⟨g, i - 1, none⟩ = false := hr.frozen _
              go_wp2_with fail
              go_region
              have hr' := Row.swap hr i (i - 1)
              have hrp' : RP a b d0 (swp d i (i - 1)) := hrp.trans (.one _ ⟨by omega, by omega⟩ ⟨by omega, by omega⟩)
              have hho := hole_first hso (by omega)
              by_cases h3 : 2 ≤ i - a
              · go_wp2_with fail
                go_loopw [9] (fun vj wr => ∃ (q : Nat) (e : Nat → Int), vj = .int .i64 q ∧ a ≤ q ∧ q ≤ i - 1 ∧ Row wr g n e ∧ RP a b d0 e ∧ Hid (Hole a (i - 1) q e) ∧ w.grownBy wr (some g)) (fun vj _ => (intOf vj).toNat)
                case atStart => exact ⟨i - 1, _, by go_num, by omega, by omega, hr', hrp', hho, grown_trans (grown_trans (grown_drew hg _) (grown_set _ _ _ _)) (grown_set _ _ _ _)⟩
                case round =>
                  clear hr hrp hso hg hr' hrp' hho hci hcp hfi hfp hlt
                  obtain ⟨q, e, rfl, hq1, hq2, hr, hrp, hho, hg⟩ := hrel
                  by_cases hq0 : 1 ≤ q
                  · have hcq : wr.cell? ⟨g, q, none⟩ = some (.int .u64 (e q)) := hr.cell (by omega)
                    have hcp : wr.cell? ⟨g, q - 1, none⟩ = some (.int .u64 (e (q - 1))) := hr.cell (by omega)
                    have hfq : wr.frozen? ⟨g, q, none⟩ = false := hr.frozen _
                    have hfp : wr.frozen? ⟨g, q - 1, none⟩ = false := hr.frozen _
                    by_cases hlt : e q < e (q - 1)
                    · have haq : a < q := by
                        rcases HA.out.turned hrp (Nat.le_refl _) (Nat.le_refl _) with h | h
                        · omega
                        · by_cases e1 : a = q
                          · subst e1
                            have := h a (Nat.le_refl _) hab
                            omega
                          · omega
                      go_wp2_with fail
                      go_quiet ((go_at_call 154; exact Calls.quiet_of_same (less_any _ _ _)))
                      go_wp2_with fail
                      go_region
                      go_wp2_with fail
                      go_roundw
                      case rel => exact ⟨q - 1, swp e q (q - 1), by go_num, by omega, by omega, Row.swap hr q (q - 1), hrp.trans (.one _ ⟨by omega, by omega⟩ ⟨by omega, by omega⟩), hho.out.step haq hq2 hlt, grown_trans (grown_trans (grown_drew hg _) (grown_set _ _ _ _)) (grown_set _ _ _ _)⟩
                      case measure => simp [intOf]; omega
                    · have hx : decide (e q < e (q - 1)) = false := by simp; omega
                      have hso := hole_done hho (by omega) (.inr (by omega))
                      go_wp2_with fail
                      go_quiet ((go_at_call 154; exact Calls.quiet_of_same (less_any _ _ _)))
                      clear hx hlt hcq hcp hfq hfp hho
                      by_cases h4 : 2 ≤ b - i
                      · go_wp2_with fail
                        go_loopw [10] (fun vj wr => ∃ (q : Nat) (e : Nat → Int), vj = .int .i64 q ∧ i + 1 ≤ q ∧ q ≤ b ∧ Row wr g n e ∧ RP a b d0 e ∧ Hid (Sorted a i e) ∧ w.grownBy wr (some g)) (fun vj _ => b - (intOf vj).toNat)
                        case atStart => exact ⟨i + 1, _, by go_num, by omega, by omega, hr, hrp, hso, grown_drew hg _⟩
                        case round =>
                          clear hr hrp hso hg
                          obtain ⟨q, e, rfl, hq1, hq2, hr, hrp, hso, hg⟩ := hrel
                          by_cases hqb : q < b
                          · have hcq : wr.cell? ⟨g, q, none⟩ = some (.int .u64 (e q)) := hr.cell (by omega)
                            have hcp : wr.cell? ⟨g, q - 1, none⟩ = some (.int .u64 (e (q - 1))) := hr.cell (by omega)
                            have hfq : wr.frozen? ⟨g, q, none⟩ = false := hr.frozen _
                            have hfp : wr.frozen? ⟨g, q - 1, none⟩ = false := hr.frozen _
                            by_cases hlt : e q < e (q - 1)
                            · go_wp2_with fail
                              go_quiet ((go_at_call 154; exact Calls.quiet_of_same (less_any _ _ _)))
                              go_wp2_with fail
                              go_region
                              go_wp2_with fail
                              go_roundw
                              case rel => exact ⟨q + 1, swp e q (q - 1), by go_num, by omega, by omega, Row.swap hr q (q - 1), hrp.trans (.one _ ⟨by omega, by omega⟩ ⟨by omega, by omega⟩), sorted_swap_above hso (by omega) (by omega), grown_trans (grown_trans (grown_drew hg _) (grown_set _ _ _ _)) (grown_set _ _ _ _)⟩
                              case measure => simp [intOf]; omega
                            · have hx : decide (e q < e (q - 1)) = false := by simp; omega
                              go_wp2_with fail
                              go_quiet ((go_at_call 154; exact Calls.quiet_of_same (less_any _ _ _)))
                              go_wp2_with fail
                              go_roundw
                              case rel => exact ⟨i, k + 1, e, rfl, by go_num, by omega, by omega, by omega, hr, hrp, hso, grown_drew hg _⟩
                              case measure => simp [intOf]; omega
                          · go_wp2_with fail
                            go_roundw
                            case rel => exact ⟨i, k + 1, e, rfl, by go_num, by omega, by omega, by omega, hr, hrp, hso, hg⟩
                            case measure => simp [intOf]; omega
                      · go_wp2_with fail
                        go_roundw
                        case rel => exact ⟨i, k + 1, _, rfl, by go_num, by omega, by omega, by omega, hr, hrp, hso, grown_drew hg _⟩
                        case measure => simp [intOf]; omega
                  · have hso := hole_done hho (by omega) (.inl (by omega))
                    clear hho
                    by_cases h4 : 2 ≤ b - i
                    · go_wp2_with fail
                      go_loopw [10] (fun vj wr => ∃ (q : Nat) (e : Nat → Int), vj = .int .i64 q ∧ i + 1 ≤ q ∧ q ≤ b ∧ Row wr g n e ∧ RP a b d0 e ∧ Hid (Sorted a i e) ∧ w.grownBy wr (some g)) (fun vj _ => b - (intOf vj).toNat)
                      case atStart => exact ⟨i + 1, _, by go_num, by omega, by omega, hr, hrp, hso, hg⟩
                      case round =>
                        clear hr hrp hso hg
                        obtain ⟨q, e, rfl, hq1, hq2, hr, hrp, hso, hg⟩ := hrel
                        by_cases hqb : q < b
                        · have hcq : wr.cell? ⟨g, q, none⟩ = some (.int .u64 (e q)) := hr.cell (by omega)
                          have hcp : wr.cell? ⟨g, q - 1, none⟩ = some (.int .u64 (e (q - 1))) := hr.cell (by omega)
                          have hfq : wr.frozen? ⟨g, q, none⟩ = false := hr.frozen _
                          have hfp : wr.frozen? ⟨g, q - 1, none⟩ = false := hr.frozen _
                          by_cases hlt : e q < e (q - 1)
                          · go_wp2_with fail
                            go_quiet ((go_at_call 154; exact Calls.quiet_of_same (less_any _ _ _)))
                            go_wp2_with fail
                            go_region
                            go_wp2_with fail
                            go_roundw
                            case rel => exact ⟨q + 1, swp e q (q - 1), by go_num, by omega, by omega, Row.swap hr q (q - 1), hrp.trans (.one _ ⟨by omega, by omega⟩ ⟨by omega, by omega⟩), sorted_swap_above hso (by omega) (by omega), grown_trans (grown_trans (grown_drew hg _) (grown_set _ _ _ _)) (grown_set _ _ _ _)⟩
                            case measure => simp [intOf]; omega
                          · have hx : decide (e q < e (q - 1)) = false := by simp; omega
                            go_wp2_with fail
                            go_quiet ((go_at_call 154; exact Calls.quiet_of_same (less_any _ _ _)))
                            go_wp2_with fail
                            go_roundw
                            case rel => exact ⟨i, k + 1, e, rfl, by go_num, by omega, by omega, by omega, hr, hrp, hso, grown_drew hg _⟩
                            case measure => simp [intOf]; omega
                        · go_wp2_with fail
                          go_roundw
                          case rel => exact ⟨i, k + 1, e, rfl, by go_num, by omega, by omega, by omega, hr, hrp, hso, hg⟩
                          case measure => simp [intOf]; omega
                    · go_wp2_with fail
                      go_roundw
                      case rel => exact ⟨i, k + 1, _, rfl, by go_num, by omega, by omega, by omega, hr, hrp, hso, hg⟩
                      case measure => simp [intOf]; omega
              · have hso : Hid (Sorted a i (swp d i (i - 1))) := hole_done hho (by omega) (.inl (by omega))
                by_cases h4 : 2 ≤ b - i
                · go_wp2_with fail
                  go_loopw [10] (fun vj wr => ∃ (q : Nat) (e : Nat → Int), vj = .int .i64 q ∧ i + 1 ≤ q ∧ q ≤ b ∧ Row wr g n e ∧ RP a b d0 e ∧ Hid (Sorted a i e) ∧ w.grownBy wr (some g)) (fun vj _ => b - (intOf vj).toNat)
                  case atStart => exact ⟨i + 1, _, by go_num, by omega, by omega, hr', hrp', hso, grown_trans (grown_trans (grown_drew hg _) (grown_set _ _ _ _)) (grown_set _ _ _ _)⟩
                  case round =>
                    clear hr hrp hso hg hr' hrp' hho hci hcp hfi hfp hlt
                    obtain ⟨q, e, rfl, hq1, hq2, hr, hrp, hso, hg⟩ := hrel
                    by_cases hqb : q < b
                    · have hcq : wr.cell? ⟨g, q, none⟩ = some (.int .u64 (e q)) := hr.cell (by omega)
                      have hcp : wr.cell? ⟨g, q - 1, none⟩ = some (.int .u64 (e (q - 1))) := hr.cell (by omega)
                      have hfq : wr.frozen? ⟨g, q, none⟩ = false := hr.frozen _
                      have hfp : wr.frozen? ⟨g, q - 1, none⟩ = false := hr.frozen _
                      by_cases hlt : e q < e (q - 1)
                      · go_wp2_with fail
                        go_quiet ((go_at_call 154; exact Calls.quiet_of_same (less_any _ _ _)))
                        go_wp2_with fail
                        go_region
                        go_wp2_with fail
                        go_roundw
                        case rel => exact ⟨q + 1, swp e q (q - 1), by go_num, by omega, by omega, Row.swap hr q (q - 1), hrp.trans (.one _ ⟨by omega, by omega⟩ ⟨by omega, by omega⟩), sorted_swap_above hso (by omega) (by omega), grown_trans (grown_trans (grown_drew hg _) (grown_set _ _ _ _)) (grown_set _ _ _ _)⟩
                        case measure => simp [intOf]; omega
                      · have hx : decide (e q < e (q - 1)) = false := by simp; omega
                        go_wp2_with fail
                        go_quiet ((go_at_call 154; exact Calls.quiet_of_same (less_any _ _ _)))
                        go_wp2_with fail
                        go_roundw
                        case rel => exact ⟨i, k + 1, e, rfl, by go_num, by omega, by omega, by omega, hr, hrp, hso, grown_drew hg _⟩
                        case measure => simp [intOf]; omega
                    · go_wp2_with fail
                      go_roundw
                      case rel => exact ⟨i, k + 1, e, rfl, by go_num, by omega, by omega, by omega, hr, hrp, hso, hg⟩
                      case measure => simp [intOf]; omega
                · omega
          · have hx : decide (d i < d (i - 1)) = false := by simp; omega
            go_wp2_with fail
            go_quiet ((go_at_call 154; exact Calls.quiet_of_same (less_any _ _ _)))
            go_wp2
            go_roundw
            case rel => first | exact ⟨i + 1, by go_num, by omega, by omega, hr, sorted_next hso (by omega) (by omega), grown_drew hg _⟩ | ((repeat apply Exists.intro); exact ⟨⟨i + 1, by go_num, by omega, by omega, hr, sorted_next hso (by omega) (by omega), grown_drew hg _⟩, rfl⟩)
            case measure => simp [intOf]; omega
        · have hdec : decide ((i : Int) < (b : Int)) = false := by simp; omega
          have hib' : i = b := by omega
          have HIB : Hid (i = b) := hib'
          clear hib'
          go_wp2_with fail
          go_quiet (fail)
          go_wp2
          go_ret
          exact ⟨true, d, rfl, hr, hrp, fun _ => by have := hso.out; rwa [HIB.out] at this, grown_drew hg _⟩
    · go_wp2
      go_ret
      exact ⟨false, d, rfl, hr, hrp, (fun h => by cases h), hg⟩
end Go.Proofs.Ytjlglfjikfpboaa.sorts

/- The library's sort at numbers of kind uint64, ninth part: the whole of it. -/

namespace Go.Proofs.Ytjlglfjikfpboaa.sorts
set_option linter.unusedVariables false
set_option linter.unusedSimpArgs false
open Go.RowKit Go.Proofs.Ytjlglfjikfpboaa.base Go.Proofs.Ytjlglfjikfpboaa.swaps

/-- of [a, b) all is in order but what lies in [x, y) -/
def Part (a b x y : Nat) (d : Nat → Int) : Prop := ∀ p q, a ≤ p → p < q → q < b → ¬(x ≤ p ∧ q < y) → d p ≤ d q
theorem Part.turned {a b x y : Nat} {d e : Nat → Int} (h : Part a b x y d) (hax : a ≤ x) (hyb : y ≤ b) (hp : RP x y d e) : Part a b x y e := by
  intro p q h1 h2 h3 h4
  by_cases hpin : x ≤ p ∧ p < y
  · by_cases hqin : x ≤ q ∧ q < y
    · omega
    · rw [hp.out (k := q) (by omega)]
      exact hp.all (P := fun v => v ≤ d q) (fun k k1 k2 => h k q (by omega) (by omega) h3 (by omega)) p hpin.1 hpin.2
  · rw [hp.out (k := p) (by omega)]
    by_cases hqin : x ≤ q ∧ q < y
    · exact hp.all (P := fun v => d p ≤ v) (fun k k1 k2 => h p k h1 (by omega) (by omega) (by omega)) q hqin.1 hqin.2
    · rw [hp.out (k := q) (by omega)]
      exact h p q h1 h2 h3 h4
theorem Part.done {a b x y : Nat} {d : Nat → Int} (h : Part a b x y d) (hs : Sorted x y d) : Sorted a b d := by
  intro p q h1 h2 h3
  by_cases hin : x ≤ p ∧ q < y
  · exact hs p q hin.1 h2 hin.2
  · exact h p q h1 h2 h3 hin
/-- what lies left of the middle is in order now, and no greater than the middle -/
theorem Part.right {a b x y m : Nat} {d : Nat → Int} (h : Part a b x y d) (_hxm : x ≤ m) (_hmy : m ≤ y) (hs : Sorted x m d) (hlo : ∀ p q, x ≤ p → p < m → m ≤ q → q < y → d p ≤ d q) : Part a b m y d := by
  intro p q h1 h2 h3 h4
  by_cases hin : x ≤ p ∧ q < y
  · by_cases hqm : q < m
    · exact hs p q hin.1 h2 hqm
    · exact hlo p q hin.1 (by omega) (by omega) hin.2
  · exact h p q h1 h2 h3 hin
theorem Part.left {a b x y m : Nat} {d : Nat → Int} (h : Part a b x y d) (_hxm : x ≤ m) (_hmy : m ≤ y) (hs : Sorted m y d) (hlo : ∀ p q, x ≤ p → p < m → m ≤ q → q < y → d p ≤ d q) : Part a b x m d := by
  intro p q h1 h2 h3 h4
  by_cases hin : x ≤ p ∧ q < y
  · by_cases hpm : m ≤ p
    · exact hs p q hpm h2 hin.2
    · exact hlo p q hin.1 (by omega) (by omega) hin.2
  · exact h p q h1 h2 h3 hin

/-- the state of the sort: the row's numbers d0 have become some numbers by exchanges; what is outside [x, y) is in its place -/
def St (w : World) (g n a b x y : Nat) (d0 : Nat → Int) (wr : World) (d : Nat → Int) : Prop :=
  Row wr g n d ∧ RP a b d0 d ∧ Part a b x y d ∧ Ahead x y d ∧ w.grownBy wr (some g)
theorem St.step {w wr w1 : World} {g n a b x y : Nat} {d0 d e : Nat → Int} (h : St w g n a b x y d0 wr d) (hax : a ≤ x) (hyb : y ≤ b) (hr : Row w1 g n e) (hp : RP x y d e) (hg : wr.grownBy w1 (some g)) : St w g n a b x y d0 w1 e :=
  ⟨hr, h.2.1.trans (hp.wide hax hyb), h.2.2.1.turned hax hyb hp, h.2.2.2.1.turned hp (Nat.le_refl _) (Nat.le_refl _), grown_trans h.2.2.2.2 hg⟩
theorem St.quiet {w wr : World} {g n a b x y : Nat} {d0 d : Nat → Int} (h : St w g n a b x y d0 wr d) (m : Nat) : St w g n a b x y d0 (wr.drewN m) d :=
  ⟨h.1, h.2.1, h.2.2.1, h.2.2.2.1, grown_drew h.2.2.2.2 m⟩
theorem St.finish {w wr w1 : World} {g n a b x y : Nat} {d0 d e : Nat → Int} (h : St w g n a b x y d0 wr d) (hax : a ≤ x) (hyb : y ≤ b) (hr : Row w1 g n e) (hp : RP x y d e) (hs : Sorted x y e) (hg : wr.grownBy w1 (some g)) :
    ∃ e, Row w1 g n e ∧ RP a b d0 e ∧ Sorted a b e ∧ w.grownBy w1 (some g) :=
  ⟨e, hr, h.2.1.trans (hp.wide hax hyb), (h.2.2.1.turned hax hyb hp).done hs, grown_trans h.2.2.2.2 hg⟩

theorem Ahead.less {x y y' : Nat} {d : Nat → Int} (h : Ahead x y d) (hy : y' ≤ y) : Ahead x y' d := by
  rcases h with h | h
  · exact .inl h
  · exact .inr fun k h1 h2 => h k h1 (by omega)
theorem St.equal {w wr w1 : World} {g n a b x y m p : Nat} {d0 d e : Nat → Int} (h : St w g n a b x y d0 wr d) (hax : a ≤ x) (hyb : y ≤ b) (hx0 : 0 < x) (hp0 : d p ≤ d (x - 1)) (hm1 : x < m) (hm2 : m ≤ y)
    (hr : Row w1 g n e) (hp : RP x y d e) (hlo : ∀ k, x ≤ k → k < m → e k ≤ d p) (hhi : ∀ k, m ≤ k → k < y → d p < e k) (hg : wr.grownBy w1 (some g)) : St w g n a b m y d0 w1 e := by
  obtain ⟨k1, k2, k3, k4, k5⟩ := h.step hax hyb hr hp hg
  have hx1 : e (x - 1) = d (x - 1) := hp.out (by omega)
  refine ⟨k1, k2, k3.right (by omega) hm2 (fun i j h1 h2 h3 => ?_) (fun i j h1 h2 h3 h4 => ?_), .inr fun k h1 h2 => ?_, k5⟩
  · rcases k4 with h0 | h0
    · omega
    · have := h0 j (by omega) (by omega)
      have := hlo i h1 (by omega)
      omega
  · have := hlo i h1 h2
    have := hhi j h3 h4
    omega
  · have := hlo (m - 1) (by omega) (by omega)
    have := hhi k h1 h2
    omega
theorem St.rightOf {w wr w1 : World} {g n a b x y m : Nat} {d0 d e : Nat → Int} (h : St w g n a b x y d0 wr d) (hax : a ≤ x) (hyb : y ≤ b) (hm1 : x ≤ m) (hm2 : m < y)
    (hlo : ∀ k, x ≤ k → k < m → d k < d m) (hhi : ∀ k, m < k → k < y → d m ≤ d k) (hr : Row w1 g n e) (hp : RP x m d e) (hs : Sorted x m e) (hg : wr.grownBy w1 (some g)) : St w g n a b (m + 1) y d0 w1 e := by
  obtain ⟨k1, k2, k3, k4, k5⟩ := h.step hax hyb hr (hp.wide (Nat.le_refl _) (by omega)) hg
  have em : e m = d m := hp.out (by omega)
  have elo : ∀ k, x ≤ k → k < m → e k < d m := hp.all (P := fun v => v < d m) hlo
  have ehi : ∀ k, m < k → k < y → e k = d k := fun k h1 h2 => hp.out (by omega)
  refine ⟨k1, k2, k3.right (by omega) (by omega) (fun i j h1 h2 h3 => ?_) (fun i j h1 h2 h3 h4 => ?_), .inr fun k h1 h2 => ?_, k5⟩
  · by_cases ej : j = m
    · subst ej; have := elo i h1 h2; omega
    · exact hs i j h1 h2 (by omega)
  · have h5 := ehi j (by omega) h4
    have h6 := hhi j (by omega) h4
    by_cases ei : i = m
    · subst ei; omega
    · have := elo i h1 (by omega); omega
  · have h5 := ehi k (by omega) h2
    have h6 := hhi k (by omega) h2
    rw [Nat.add_sub_cancel]; omega
theorem St.leftOf {w wr w1 : World} {g n a b x y m : Nat} {d0 d e : Nat → Int} (h : St w g n a b x y d0 wr d) (hax : a ≤ x) (hyb : y ≤ b) (hm1 : x ≤ m) (hm2 : m < y)
    (hlo : ∀ k, x ≤ k → k < m → d k < d m) (hhi : ∀ k, m < k → k < y → d m ≤ d k) (hr : Row w1 g n e) (hp : RP (m + 1) y d e) (hs : Sorted (m + 1) y e) (hg : wr.grownBy w1 (some g)) : St w g n a b x m d0 w1 e := by
  obtain ⟨k1, k2, k3, k4, k5⟩ := h.step hax hyb hr (hp.wide (by omega) (Nat.le_refl _)) hg
  have em : e m = d m := hp.out (by omega)
  have elo : ∀ k, x ≤ k → k < m → e k = d k := fun k h1 h2 => hp.out (by omega)
  have ehi : ∀ k, m + 1 ≤ k → k < y → d m ≤ e k := hp.all (P := fun v => d m ≤ v) (fun k h1 h2 => hhi k (by omega) h2)
  refine ⟨k1, k2, k3.left hm1 (by omega) (fun i j h1 h2 h3 => ?_) (fun i j h1 h2 h3 h4 => ?_), k4.less (by omega), k5⟩
  · by_cases ei : i = m
    · subst ei; have := ehi j (by omega) h3; omega
    · exact hs i j (by omega) h2 h3
  · have h5 := elo i h1 h2
    have h6 := hlo i h1 h2
    by_cases ej : j = m
    · subst ej; omega
    · have := ehi j (by omega) h4; omega

set_option maxHeartbeats 10000000 in
set_option maxRecDepth 100000 in
theorem pdq_ok (g n c : Nat) (hn : n ≤ 100000000) : ∀ (N a b lim : Nat) (d0 : Nat → Int) (w : World), b - a < N → a ≤ b → b ≤ n → lim ≤ 100 → Row w g n d0 → Ahead a b d0 →
    Calls Try.prog 122 #[.slice (some ⟨g, 0, none⟩) n c, .int .i64 a, .int .i64 b, .int .i64 lim] w fun e w' =>
      e = .returned (.tuple #[]) ∧ ∃ d, Row w' g n d ∧ RP a b d0 d ∧ Sorted a b d ∧ w.grownBy w' (some g) := by
  intro N
  induction N with
  | zero => intro a b lim d0 w h; omega
  | succ N ih =>
  intro a b lim d0 w hN hab hbn hlim hrow hah
  have hSt0 : St w g n a b a b d0 w d0 := ⟨hrow, .refl, fun p q h1 h2 h3 h4 => by omega, hah, World.grownBy.refl _ _⟩
  clear hrow hah
  go_enter Try.func122, Try.ntmps122
  go_wp2_with fail
  go_loopg [1, 2, 3, 8, 9] (b - a) (fun k s1 s2 s3 s8 s9 wr => ∃ (x y L : Nat) (wb wp : Bool) (d : Nat → Int), s1 = .int .i64 x ∧ s2 = .int .i64 y ∧ s3 = .int .i64 L ∧ s8 = .bool wb ∧ s9 = .bool wp ∧ k = y - x ∧ a ≤ x ∧ x ≤ y ∧ y ≤ b ∧ L ≤ 100 ∧ St w g n a b x y d0 wr d)
  case atStart => exact ⟨a, b, lim, true, true, d0, rfl, rfl, rfl, rfl, rfl, rfl, Nat.le_refl _, hab, Nat.le_refl _, hlim, hSt0⟩
  case round =>
    clear hSt0
    obtain ⟨x, y, L, wb, wp, d, rfl, rfl, rfl, rfl, rfl, hk, hax, hxy, hyb, hL, hst⟩ := hrel
    by_cases h12 : y - x ≤ 12
    · have hc := insertion_ok g n c x y d wr hst.1 hxy (by omega) hn
      go_wp2_with (go_at_call 148; ((with_reducible refine hc.mono ?_); rintro e w1 ⟨rfl, d1, hr1, hp1, hs1, hg1⟩))
      first | go_end0 | refine bodyPost_ret (results_none rfl _ _ _) rfl ?_
      exact ⟨rfl, hst.finish hax hyb hr1 hp1 hs1 hg1⟩
    · by_cases hL0 : L = 0
      · subst hL0
        have hc := heap_ok g n c x y d wr hst.1 (by omega) (by omega) hn
        go_wp2_with (go_at_call 149; ((with_reducible refine hc.mono ?_); rintro e w1 ⟨rfl, d1, hr1, hp1, hs1, hg1⟩))
        first | go_end0 | refine bodyPost_ret (results_none rfl _ _ _) rfl ?_
        exact ⟨rfl, hst.finish hax hyb hr1 hp1 hs1 hg1⟩
      · have hc := break_ok g n c x y d wr hst.1 (by omega) (by omega) hn
        go_upto_if 35 with fail
        go_cut [3] from 19 (fun s3 wc => ∃ (L' : Nat) (d1 : Nat → Int), s3 = .int .i64 L' ∧ L' ≤ 100 ∧ St w g n a b x y d0 wc d1)
        case first =>
          cases wb
          · go_wp2_with (go_at_call 150; ((with_reducible refine hc.mono ?_); rintro e w1 ⟨rfl, d1, hr1, hp1, hg1⟩))
            go_meet
            exact ⟨L - 1, d1, by go_num, by omega, hst.step hax hyb hr1 hp1 hg1⟩
          · go_wp2_with fail
            go_meet
            exact ⟨L, d, rfl, hL, hst⟩
        case rest =>
          clear hst hc
          obtain ⟨L', d1, rfl, hL', hst⟩ := hcut
          have hc := pivot_ok g n c x y d1 wc hst.1 (by omega) (by omega) hn
          go_upto_if 50 with (go_at_call 151; ((with_reducible refine hc.mono ?_); rintro e w1 ⟨m, h, rfl, hm1, hm2, hr1, hb1⟩))
          have hst1 : St w g n a b x y d0 w1 d1 := ⟨hr1, hst.2.1, hst.2.2.1, hst.2.2.2.1, grown_below hst.2.2.2.2 hb1⟩
          clear hc hst hr1 hb1
          have hc := reverse_ok g n c x y d1 w1 hst1.1 (by omega) (by omega) hn
          go_cut [11, 12] from 19 (fun s11 s12 wc => ∃ (m : Nat) (h : Int) (d1 : Nat → Int), s11 = .int .i64 m ∧ s12 = .int .i64 h ∧ x ≤ m ∧ m < y ∧ St w g n a b x y d0 wc d1)
          case first =>
            by_cases hh : h = 2
            · subst hh
              go_wp2_with (go_at_call 152; ((with_reducible refine hc.mono ?_); rintro e w2 ⟨rfl, d2, hr2, hp2, hg2⟩))
              go_meet
              exact ⟨y - 1 - (m - x), 1, d2, by go_num, rfl, by omega, by omega, hst1.step hax hyb hr2 hp2 hg2⟩
            · go_wp2_with fail
              go_meet
              exact ⟨m, h, d1, rfl, rfl, hm1, hm2, hst1⟩
          case rest =>
            clear hst1 hc hm1 hm2
            obtain ⟨m, h, d1, rfl, rfl, hm1, hm2, hst⟩ := hcut
            go_upto_region 15 with fail
            go_cut [68] from 19 (fun s68 wx => ∃ t : Bool, s68 = .bool t ∧ wx = wc)
            case first =>
              by_cases hh : h = 1 <;> cases wb <;> cases wp
              all_goals (go_wp2_with fail; go_meet; exact ⟨_, rfl, rfl⟩)
            case rest =>
              obtain ⟨t, rfl, rfl⟩ := hcut
              have hc := partial_ok g n c x y d1 _ hst.1 (by omega) (by omega) hn hst.2.2.2.1
              go_upto_if 68 with fail
              go_cut [] from 19 (fun wx => ∃ d1 : Nat → Int, St w g n a b x y d0 wx d1)
              case first =>
                cases t
                · go_wp2_with fail
                  go_meet
                  exact ⟨d1, hst⟩
                · go_wp2_with (go_at_call 153; ((with_reducible refine hc.mono ?_); rintro e w2 ⟨z, d2, rfl, hr2, hp2, hs2, hg2⟩; cases z))
                  · go_meet
                    exact ⟨d2, hst.step hax hyb hr2 hp2 hg2⟩
                  · first | go_end0 | refine bodyPost_ret (results_none rfl _ _ _) rfl ?_
                    exact ⟨rfl, hst.finish hax hyb hr2 hp2 (by first | exact hs2 rfl | exact hs2 trivial) hg2⟩
              case rest =>
                clear hst hc
                obtain ⟨d2, hst⟩ := hcut
                go_upto_region 17 with fail
                go_cut [87] from 19 (fun s87 wx => ∃ t : Bool, s87 = .bool t ∧ (t = true → 0 < x ∧ d2 m ≤ d2 (x - 1)) ∧ St w g n a b x y d0 wx d2)
                case first =>
                  have hcm := hst.1.cell (i := m) (by omega)
                  by_cases hx0 : 0 < x
                  · have hcx := hst.1.cell (i := x - 1) (by omega)
                    by_cases hlt : d2 (x - 1) < d2 m
                    · go_quiet ((go_at_call 154; exact Calls.quiet_of_same (less_any _ _ _)))
                      go_wp2_with fail
                      go_meet
                      exact ⟨false, by simp, (fun h => by cases h), hst.quiet _⟩
                    · go_quiet ((go_at_call 154; exact Calls.quiet_of_same (less_any _ _ _)))
                      go_wp2_with fail
                      go_meet
                      exact ⟨true, by simp, fun _ => ⟨hx0, by omega⟩, hst.quiet _⟩
                  · have hdec : decide ((0 : Int) < (x : Int)) = false := by simp; omega
                    go_quiet (fail)
                    go_wp2_with fail
                    go_meet
                    exact ⟨false, rfl, (fun h => by cases h), hst.quiet _⟩
                case rest =>
                  clear hst
                  obtain ⟨t, rfl, ht, hst⟩ := hcut
                  have HT : Hid (t = true → 0 < x ∧ d2 m ≤ d2 (x - 1)) := ht
                  clear ht
                  cases t
                  · have hc := part_ok g n c x y m d2 _ hst.1 hm1 hm2 (by omega) hn
                    go_upto_if 113 with (go_at_call 156; ((with_reducible refine hc.mono ?_); rintro e w3 ⟨k, z, d3, rfl, hk1, hk2, hr3, hp3, he3, hlo3, hhi3, hg3⟩))
                    have hst3 := hst.step hax hyb hr3 hp3 hg3
                    have HLO : Hid (∀ j, x ≤ j → j < k → d3 j < d3 k) := (show ∀ j, x ≤ j → j < k → d3 j < d3 k from fun j h1 h2 => by rw [he3]; exact hlo3 j h1 h2)
                    have HHI : Hid (∀ j, k < j → j < y → d3 k ≤ d3 j) := (show ∀ j, k < j → j < y → d3 k ≤ d3 j from fun j h1 h2 => by rw [he3]; exact hhi3 j h1 h2)
                    clear hst hc hr3 hp3 he3 hlo3 hhi3 hg3 HT
                    by_cases hlen : (k : Int) - (x : Int) < (y : Int) - (k : Int)
                    · have hc := ih x k L' d3 w3 (by omega) hk1 (by omega) hL' hst3.1 (hst3.2.2.2.1.less (by omega))
                      go_wp2_with (go_at_call 122; ((with_reducible refine hc.mono ?_); rintro e w4 ⟨rfl, d4, hr4, hp4, hs4, hg4⟩))
                      go_roundg (y - (k + 1))
                      case measure => omega
                      case rel => exact ⟨k + 1, y, L', _, z, d4, by go_num, rfl, rfl, rfl, rfl, rfl, by omega, by omega, hyb, hL', hst3.rightOf hax hyb hk1 hk2 HLO.out HHI.out hr4 hp4 hs4 hg4⟩
                    · have hc := ih (k + 1) y L' d3 w3 (by omega) (by omega) (by omega) hL' hst3.1 (.inr fun j h1 h2 => by rw [Nat.add_sub_cancel]; exact HHI.out j (by omega) h2)
                      rw [show ((k + 1 : Nat) : Int) = (k : Int) + 1 by omega] at hc
                      go_wp2_with (go_at_call 122; ((with_reducible refine hc.mono ?_); rintro e w4 ⟨rfl, d4, hr4, hp4, hs4, hg4⟩))
                      go_roundg (k - x)
                      case measure => omega
                      case rel => exact ⟨x, k, L', _, z, d4, rfl, rfl, rfl, rfl, rfl, rfl, hax, hk1, by omega, hL', hst3.leftOf hax hyb hk1 hk2 HLO.out HHI.out hr4 hp4 hs4 hg4⟩
                  · have HT1 : Hid (0 < x ∧ d2 m ≤ d2 (x - 1)) := HT.out rfl
                    have hc := equal_ok g n c x y m d2 _ hst.1 hm1 hm2 (by omega) hn
                    go_wp2_with (go_at_call 155; ((with_reducible refine hc.mono ?_); rintro e w3 ⟨k, d3, rfl, hk1, hk2, hr3, hp3, hlo3, hhi3, hg3⟩))
                    go_roundg (y - k)
                    case measure => omega
                    case rel => exact ⟨k, y, L', wb, wp, d3, rfl, rfl, rfl, rfl, rfl, rfl, by omega, hk2, hyb, hL', hst.equal hax hyb HT1.out.1 HT1.out.2 hk1 hk2 hr3 hp3 hlo3 hhi3 hg3⟩
end Go.Proofs.Ytjlglfjikfpboaa.sorts
