/- What dice.Fresh and the reference's Fresh answer: whether no two numbers of a list are alike, and each is small enough. -/
import Derived.Test.YtjlglfjikfpboaaSortsG
import Derived.Test.YtjlglfjikfpboaaDice


namespace Go.Proofs.Ytjlglfjikfpboaa.fresh
set_option linter.unusedVariables false
set_option linter.unusedSimpArgs false
open Go.RowKit Go.Proofs.Ytjlglfjikfpboaa.base Go.Proofs.Ytjlglfjikfpboaa.swaps Go.Proofs.Ytjlglfjikfpboaa.sorts Go.Proofs.Ytjlglfjikfpboaa.dice

theorem sort_ok (g n c : Nat) (d0 : Nat → Int) (w : World) (hrow : Row w g n d0) (hn : n ≤ 100000000) :
    Calls Try.prog 85 #[.slice (some ⟨g, 0, none⟩) n c] w fun e w' =>
      e = .returned (.tuple #[]) ∧ ∃ d, Row w' g n d ∧ RP 0 n d0 d ∧ Sorted 0 n d ∧ w.grownBy w' (some g) := by
  have b4 : Lib.bitLen n ≤ 64 := Lib.bitLen_le n 64 (by omega) (by omega)
  obtain ⟨L, hL⟩ : ∃ L, L = Lib.bitLen n := ⟨_, rfl⟩
  have hc := Try.bits_Len (n : Int) w (by omega) (by omega)
  rw [Int.toNat_natCast, ← hL] at hc
  rw [← hL] at b4
  clear hL
  have hp := pdq_ok g n c hn (n + 1) 0 n L d0 w (by omega) (by omega) (Nat.le_refl _) (by omega) hrow (.inl rfl)
  rw [show ((0 : Nat) : Int) = 0 from rfl] at hp
  go_enter Try.func85, Try.ntmps85
  go_wp2_with (first
    | (go_at_call 100; ((with_reducible refine hc.mono ?_); rintro e w1 ⟨rfl, rfl⟩))
    | (go_at_call 122; ((with_reducible refine hp.mono ?_); rintro e w2 ⟨rfl, d, hr, hrp, hs, hg⟩)))
  first | go_end0 | refine bodyPost_ret (results_none rfl _ _ _) rfl ?_
  exact ⟨rfl, d, hr, hrp, hs, hg⟩

/-- no two of the first n numbers are alike, and each is small enough -/
def Ok (n : Nat) (d : Nat → Int) : Prop := (∀ i, i < n → d i < 1099511627776 + n) ∧ ∀ i j, j < i → i < n → d j ≠ d i
theorem ok_iff {n : Nat} {d0 d : Nat → Int} (hp : RP 0 n d0 d) (hs : Sorted 0 n d) : Ok n d0 ↔ ∀ j, j < n → d j < 1099511627776 + n ∧ (0 < j → d (j - 1) ≠ d j) := by
  obtain ⟨s, t, h1, h2, h3, h4, h5⟩ := hp.places
  constructor
  · rintro ⟨ha, hb⟩ j hj
    refine ⟨by rw [h5]; exact ha _ (h3 j (Nat.zero_le _) hj).2, fun h0 he => ?_⟩
    rw [h5, h5] at he
    have hne : s (j - 1) ≠ s j := fun e => by
      have := congrArg t e
      rw [h2, h2] at this
      omega
    rcases Nat.lt_or_gt_of_ne hne with hlt | hlt
    · exact hb _ _ hlt (h3 j (Nat.zero_le _) hj).2 he
    · exact hb _ _ hlt (h3 (j - 1) (Nat.zero_le _) (by omega)).2 he.symm
  · intro h
    have hst : ∀ p q, p < q → q < n → d p < d q := fun p q hpq hq => by
      have a1 := h q hq
      have a2 := a1.2 (by omega)
      have a3 := hs (q - 1) q (Nat.zero_le _) (by omega) hq
      by_cases e : p = q - 1
      · subst e; omega
      · have := hs p (q - 1) (Nat.zero_le _) (by omega) (by omega); omega
    have h0 : ∀ k, d0 k = d (t k) := fun k => by rw [h5, h1]
    refine ⟨fun i hi => by rw [h0]; exact (h _ (h4 i (Nat.zero_le _) hi).2).1, fun i j hji hi he => ?_⟩
    rw [h0, h0] at he
    have hne : t j ≠ t i := fun e => by
      have := congrArg s e
      rw [h1, h1] at this
      omega
    have b1 := (h4 i (Nat.zero_le _) hi).2
    have b2 := (h4 j (Nat.zero_le _) (by omega)).2
    rcases Nat.lt_or_gt_of_ne hne with hlt | hlt
    · have := hst _ _ hlt b1; omega
    · have := hst _ _ hlt b2; omega

/-- the ending tells whether p holds -/
def Says (p : Prop) (e : Ending) : Prop := ∃ y : Bool, e = .returned (.bool y) ∧ (y = true ↔ p)
/-- a list of numbers as a function of the place -/
def at' (zs : List Int) (i : Nat) : Int := zs[i]?.getD 0
theorem row_of {w : World} {g : Nat} {zs : List Int} (h : Blk w g 36 (zs.map (Value.int .u64)).toArray) : Row w g zs.length (at' zs) :=
  ⟨_, h, by simp, fun i hi => by simp [at', hi]⟩

end Go.Proofs.Ytjlglfjikfpboaa.fresh
