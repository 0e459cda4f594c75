/- The library's sort at numbers of kind uint64, first part: a row of numbers in memory; comparing; insertion. -/
import Derived.Test.YtnkpljcfmifinaaRows
import Derived.Test.YtnkpljcfmifinaaBase
import Derived.Test.YtnkpljcfmifinaaSwaps
import Derived.BigRegion
import Derived.ChangeAlike
namespace Go.Proofs.Ytnkpljcfmifinaa.sorts
open Go.RowKit Go.Proofs.Ytnkpljcfmifinaa.base Go.Proofs.Ytnkpljcfmifinaa.swaps

/-- block g is a row of n numbers, not frozen: the numbers d -/
def Row (w : World) (g n : Nat) (d : Nat → Int) : Prop :=
  ∃ cs : Array Value, w.heap[g]? = some (.cells cs 31 (0, 0)) ∧ cs.size = n ∧ ∀ i, i < n → cs[i]? = some (.int .u64 (d i))
section
variable {w w' : World} {g n : Nat} {d : Nat → Int}
theorem Row.cell (h : Row w g n d) {i : Nat} (hi : i < n) : w.cell? ⟨g, i, none⟩ = some (.int .u64 (d i)) := by
  obtain ⟨cs, h1, h2, h3⟩ := h
  rw [Blk.cell (t := 31) (cs := cs) h1]
  exact h3 i hi
theorem Row.frozen (h : Row w g n d) (i : Nat) : w.frozen? ⟨g, i, none⟩ = false := by
  obtain ⟨cs, h1, h2, h3⟩ := h
  exact Blk.frozen (t := 31) (cs := cs) h1 i
theorem Row.lt (h : Row w g n d) : g < w.heap.size := by
  obtain ⟨cs, h1, h2, h3⟩ := h
  exact Blk.lt (t := 31) (cs := cs) h1
theorem Row.drew (h : Row w g n d) : Row w.drew g n d := h
theorem Row.keep (h : Row w g n d) (hk : w'.heap[g]? = w.heap[g]?) : Row w' g n d := by
  obtain ⟨cs, h1, h2, h3⟩ := h
  exact ⟨cs, hk.trans h1, h2, h3⟩
theorem Row.put (h : Row w g n d) (i : Nat) (x : Int) : Row (w.setCell ⟨g, i, none⟩ (.int .u64 x)) g n (fun k => if k = i then x else d k) := by
  obtain ⟨cs, h1, h2, h3⟩ := h
  refine ⟨cs.setIfInBounds i (.int .u64 x), Blk.put (t := 31) (cs := cs) h1 i _, by simpa using h2, fun k hk => ?_⟩
  rw [Array.getElem?_setIfInBounds]
  by_cases e : i = k
  · subst e
    rw [if_pos rfl, if_pos (by omega)]
    simp
  · rw [if_neg e, h3 k hk]
    have e' : ¬ k = i := fun h => e h.symm
    simp [e']
theorem Row.swap (h : Row w g n d) (i j : Nat) : Row ((w.setCell ⟨g, i, none⟩ (.int .u64 (d j))).setCell ⟨g, j, none⟩ (.int .u64 (d i))) g n (swp d i j) := by
  obtain ⟨cs, h1, h2, h3⟩ := (h.put i (d j)).put j (d i)
  refine ⟨cs, h1, h2, fun k hk => ?_⟩
  rw [h3 k hk]
  unfold swp
  by_cases e : k = j
  · by_cases e' : k = i
    · subst e; subst e'; simp
    · simp [e]
      intro h'
      exact absurd (e.trans h') e'
  · simp [e]
end

theorem less_any (x y : Int) (w : World) : Calls Try.prog 26 #[.int .u64 x, .int .u64 y] w fun e w' => e = .returned (.bool (decide (x < y))) ∧ w' = w := by
  go_enter Try.func26, Try.ntmps26
  go_wp2
  go_ret
  exact ⟨rfl, rfl⟩

/-- the same behind an earlier draw -/
theorem less_more (x y : Int) (w : World) (a n : Nat) : Calls Try.prog 26 #[.int .u64 x, .int .u64 y] (w.drewN (a + n)) fun e w' => e = .returned (.bool (decide (x < y))) ∧ ∃ m, w' = w.drewN (a + m) :=
  (less_any x y _).mono fun _ _ ⟨he, hm⟩ => ⟨he, n, hm⟩

set_option maxRecDepth 100000 in
theorem insertion_ok (g n c a b : Nat) (d0 : Nat → Int) (w : World) (hrow : Row w g n d0) (hab : a ≤ b) (hbn : b ≤ n) (hn : n ≤ 100000000) :
    Calls Try.prog 20 #[.slice (some ⟨g, 0, none⟩) n c, .int .i64 a, .int .i64 b] w fun e w' =>
      e = .returned (.tuple #[]) ∧ ∃ d, Row w' g n d ∧ RP a b d0 d ∧ Sorted a b d ∧ w.grownBy w' (some g) := by
  go_enter Try.func20, Try.ntmps20
  go_wp2
  go_loopw [6] (fun i wr => ∃ (k : Nat) (d : Nat → Int), i = .int .i64 k ∧ a + 1 ≤ k ∧ k ≤ b + 1 ∧ Row wr g n d ∧ RP a b d0 d ∧ Sorted a k d ∧ w.grownBy wr (some g)) (fun i _ => b + 1 - (intOf i).toNat)
  case atStart => exact ⟨a + 1, d0, by go_num, by omega, by omega, hrow, .refl, fun p q h1 h2 h3 => by omega, World.grownBy.refl _ _⟩
  case round =>
    obtain ⟨k, d, rfl, hk1, hk2, hr, hp, hs, hg⟩ := hrel
    by_cases hkb : k < b
    · go_wp2
      go_loopw [7] (fun j wr => ∃ (q : Nat) (d : Nat → Int), j = .int .i64 q ∧ a ≤ q ∧ q ≤ k ∧ Row wr g n d ∧ RP a b d0 d ∧ Hole a k q d ∧ w.grownBy wr (some g)) (fun j _ => (intOf j).toNat)
      case atStart => exact ⟨k, d, rfl, by omega, Nat.le_refl _, hr, hp, .start hs, hg⟩
      case round =>
        obtain ⟨q, d', rfl, hq1, hq2, hr', hp', hh, hg'⟩ := hrel
        have hcq : wr.cell? ⟨g, q, none⟩ = some (.int .u64 (d' q)) := hr'.cell (by omega)
        have hcp : wr.cell? ⟨g, q - 1, none⟩ = some (.int .u64 (d' (q - 1))) := hr'.cell (by omega)
        have hfq : wr.frozen? ⟨g, q, none⟩ = false := hr'.frozen _
        have hfp : wr.frozen? ⟨g, q - 1, none⟩ = false := hr'.frozen _
        by_cases haq : a < q
        · by_cases hlt : d' q < d' (q - 1)
          · go_wp2_with fail
            go_quiet ((go_at_call 26; exact Calls.quiet_of_same (less_any _ _ _)))
            go_wp2_with fail
            go_region
            go_wp2
            go_roundw
            case rel =>
              refine ⟨q - 1, swp d' q (q - 1), by go_num, by omega, by omega, ?_, hp'.trans (.one _ ⟨by omega, by omega⟩ ⟨by omega, by omega⟩), hh.step haq hq2 hlt, ?_⟩
              · exact (Row.swap hr' q (q - 1))
              · exact grown_trans (grown_trans (grown_drew hg' _) (grown_set _ _ _ _)) (grown_set _ _ _ _)
            case measure => simp [intOf]; omega
          · go_wp2_with fail
            go_quiet ((go_at_call 26; exact Calls.quiet_of_same (less_any _ _ _)))
            go_wp2
            go_roundw
            case rel => exact ⟨k + 1, d', by go_num, by omega, by omega, hr', hp', hh.done (.inr (by omega)), grown_drew hg' _⟩
            case measure => simp [intOf]; omega
        · have hdec : decide ((a : Int) < (q : Int)) = false := by simp; omega
          go_wp2_with fail
          go_quiet (fail)
          go_wp2
          go_roundw
          case rel => exact ⟨k + 1, d', by go_num, by omega, by omega, hr', hp', hh.done (.inl (by omega)), grown_drew hg' _⟩
          case measure => simp [intOf]; omega
    · go_wp2
      go_end0
      exact ⟨rfl, d, hr, hp, hs.mono (Nat.le_refl _) (by omega), hg⟩
end Go.Proofs.Ytnkpljcfmifinaa.sorts
