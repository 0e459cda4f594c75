/- What dice.Fresh and the reference's Fresh answer: whether no two numbers of a list are alike, and each is small enough. -/
import Derived.Test.YtnkpljcfmifinaaSortP
import Derived.Test.YtnkpljcfmifinaaDice
namespace Go.Proofs.Ytnkpljcfmifinaa.fresh
open Go.RowKit Go.Proofs.Ytnkpljcfmifinaa.base Go.Proofs.Ytnkpljcfmifinaa.swaps Go.Proofs.Ytnkpljcfmifinaa.sorts Go.Proofs.Ytnkpljcfmifinaa.dice

theorem sort_ok (g n c : Nat) (d0 : Nat → Int) (w : World) (hrow : Row w g n d0) (hn : n ≤ 100000000) :
    Calls Try.prog 17 #[.slice (some ⟨g, 0, none⟩) n c] w fun e w' =>
      e = .returned (.tuple #[]) ∧ ∃ d, Row w' g n d ∧ RP 0 n d0 d ∧ Sorted 0 n d ∧ w.grownBy w' (some g) := by
  have b4 : Lib.bitLen n ≤ 64 := Lib.bitLen_le n 64 (by omega) (by omega)
  obtain ⟨L, hL⟩ : ∃ L, L = Lib.bitLen n := ⟨_, rfl⟩
  have hc := Try.bits_Len (n : Int) w (by omega) (by omega)
  rw [Int.toNat_natCast, ← hL] at hc
  rw [← hL] at b4
  clear hL
  have hp := pdq_ok g n c hn (n + 1) 0 n L d0 w (by omega) (by omega) (Nat.le_refl _) (by omega) hrow (.inl rfl)
  rw [show ((0 : Nat) : Int) = 0 from rfl] at hp
  go_enter Try.func17, Try.ntmps17
  go_wp2_with (first
    | (go_at_call 19; ((with_reducible refine hc.mono ?_); rintro e w1 ⟨rfl, rfl⟩))
    | (go_at_call 18; ((with_reducible refine hp.mono ?_); rintro e w2 ⟨rfl, d, hr, hrp, hs, hg⟩)))
  first | go_end0 | refine bodyPost_ret (results_none rfl _ _ _) rfl ?_
  exact ⟨rfl, d, hr, hrp, hs, hg⟩

/-- no two of the first n numbers are alike, and each is small enough -/
def Ok (n : Nat) (d : Nat → Int) : Prop := (∀ i, i < n → d i < 1099511627776 + n) ∧ ∀ i j, j < i → i < n → d j ≠ d i
theorem ok_iff {n : Nat} {d0 d : Nat → Int} (hp : RP 0 n d0 d) (hs : Sorted 0 n d) : Ok n d0 ↔ ∀ j, j < n → d j < 1099511627776 + n ∧ (0 < j → d (j - 1) ≠ d j) := by
  obtain ⟨s, t, h1, h2, h3, h4, h5⟩ := hp.places
  constructor
  · rintro ⟨ha, hb⟩ j hj
    refine ⟨by rw [h5]; exact ha _ (h3 j (Nat.zero_le _) hj).2, fun h0 he => ?_⟩
    rw [h5, h5] at he
    have hne : s (j - 1) ≠ s j := fun e => by
      have := congrArg t e
      rw [h2, h2] at this
      omega
    rcases Nat.lt_or_gt_of_ne hne with hlt | hlt
    · exact hb _ _ hlt (h3 j (Nat.zero_le _) hj).2 he
    · exact hb _ _ hlt (h3 (j - 1) (Nat.zero_le _) (by omega)).2 he.symm
  · intro h
    have hst : ∀ p q, p < q → q < n → d p < d q := fun p q hpq hq => by
      have a1 := h q hq
      have a2 := a1.2 (by omega)
      have a3 := hs (q - 1) q (Nat.zero_le _) (by omega) hq
      by_cases e : p = q - 1
      · subst e; omega
      · have := hs p (q - 1) (Nat.zero_le _) (by omega) (by omega); omega
    have h0 : ∀ k, d0 k = d (t k) := fun k => by rw [h5, h1]
    refine ⟨fun i hi => by rw [h0]; exact (h _ (h4 i (Nat.zero_le _) hi).2).1, fun i j hji hi he => ?_⟩
    rw [h0, h0] at he
    have hne : t j ≠ t i := fun e => by
      have := congrArg s e
      rw [h1, h1] at this
      omega
    have b1 := (h4 i (Nat.zero_le _) hi).2
    have b2 := (h4 j (Nat.zero_le _) (by omega)).2
    rcases Nat.lt_or_gt_of_ne hne with hlt | hlt
    · have := hst _ _ hlt b1; omega
    · have := hst _ _ hlt b2; omega

/-- the ending tells whether p holds -/
def Says (p : Prop) (e : Ending) : Prop := ∃ y : Bool, e = .returned (.bool y) ∧ (y = true ↔ p)
/-- a list of numbers as a function of the place -/
def at' (zs : List Int) (i : Nat) : Int := zs[i]?.getD 0
theorem row_of {w : World} {g : Nat} {zs : List Int} (h : Blk w g 31 (zs.map (Value.int .u64)).toArray) : Row w g zs.length (at' zs) :=
  ⟨_, h, by simp, fun i hi => by simp [at', hi]⟩

set_option maxHeartbeats 1000000 in
set_option maxRecDepth 100000 in
theorem fresh_ok (A : Option Addr) (c : Nat) (zs : List Int) (w : World) (hr : Rd w w.heap.size A (zs.map (Value.int .u64))) (hn : zs.length ≤ 100000) :
    Calls Try.prog 14 #[.slice A zs.length c] w fun e w' => Says (Ok zs.length (at' zs)) e ∧ Below w.heap.size w w' := by
  have hc := copied_any A c (zs.map (Value.int .u64)) w hr (one_cells zs) (by simp; omega)
  rw [List.length_map] at hc
  go_enter Try.func14, Try.ntmps14
  go_wp2_with (go_at_call 16; ((with_reducible refine hc.mono ?_); rintro e w1 ⟨g, rfl, hg, hb, hbel⟩; have hrow := row_of hb))
  refine (sort_ok g zs.length zs.length (at' zs) w1 hrow (by omega)).mono ?_
  rintro e w2 ⟨rfl, d, hr2, hp2, hs2, hg2⟩
  have hiff := ok_iff hp2 hs2
  have HI : Hid (Ok zs.length (at' zs) ↔ ∀ j, j < zs.length → d j < 1099511627776 + zs.length ∧ (0 < j → d (j - 1) ≠ d j)) := hiff
  have hb2 : Below w.heap.size w w2 := hbel.grown hg2 hbel.size (by simp; omega)
  clear hrow hb hbel hp2 hs2 hg2 hiff hc hr
  obtain ⟨n, hlen⟩ : ∃ n, n = zs.length := ⟨_, rfl⟩
  have HI' : Hid (Ok zs.length (at' zs) ↔ ∀ j, j < n → d j < 1099511627776 + n ∧ (0 < j → d (j - 1) ≠ d j)) := by rw [hlen]; exact HI
  clear HI
  have HI := HI'
  clear HI'
  rw [← hlen] at hr2 hn ⊢
  clear hlen
  go_wp2_with fail
  go_loop [17] (fun vi => ∃ k : Nat, vi = .int .i64 k ∧ k ≤ n ∧ Hid (∀ j, j < k → d j < 1099511627776 + n ∧ (0 < j → d (j - 1) ≠ d j))) (fun vi => n - (intOf vi).toNat)
  case atStart => exact ⟨0, rfl, Nat.zero_le _, (show ∀ j, j < 0 → _ from fun j h => by omega)⟩
  case round =>
    obtain ⟨k, rfl, hk, hd⟩ := hrel
    by_cases hkn : k < n
    · have hck : w2.cell? ⟨g, k, none⟩ = some (.int .u64 (d k)) := hr2.cell (by omega)
      have hcp : w2.cell? ⟨g, k - 1, none⟩ = some (.int .u64 (d (k - 1))) := hr2.cell (by omega)
      by_cases hbig : 1099511627776 + (n : Int) ≤ d k
      · go_wp2
        go_ret
        exact ⟨⟨false, rfl, by simp only [Bool.false_eq_true, false_iff]; intro hok; have := (HI.out.1 hok k hkn).1; omega⟩, hb2⟩
      · by_cases hk0 : 0 < k
        · by_cases heq : d k = d (k - 1)
          · have hx : (d k == d (k - 1)) = true := by simpa using heq
            have HE : Hid (d k = d (k - 1)) := heq
            clear heq
            go_wp2
            go_ret
            exact ⟨⟨false, rfl, by simp only [Bool.false_eq_true, false_iff]; intro hok; exact (HI.out.1 hok k hkn).2 hk0 HE.out.symm⟩, hb2⟩
          · have hx : (d k == d (k - 1)) = false := by simpa using heq
            go_wp2
            go_round
            case rel =>
              have H1 : Hid (∀ j, j < k + 1 → d j < 1099511627776 + n ∧ (0 < j → d (j - 1) ≠ d j)) := (show ∀ j, j < k + 1 → d j < 1099511627776 + n ∧ (0 < j → d (j - 1) ≠ d j) by
                intro j h1
                by_cases e : j = k
                · subst e; exact ⟨by omega, fun _ h => heq h.symm⟩
                · exact hd.out j (by omega))
              exact ⟨k + 1, by go_num, by omega, H1⟩
            case measure => simp [intOf]; omega
        · have hx : decide ((0 : Int) < (k : Int)) = false := by simp; omega
          go_wp2
          go_round
          case rel =>
            have H1 : Hid (∀ j, j < k + 1 → d j < 1099511627776 + n ∧ (0 < j → d (j - 1) ≠ d j)) := (show ∀ j, j < k + 1 → d j < 1099511627776 + n ∧ (0 < j → d (j - 1) ≠ d j) by
              intro j h1
              by_cases e : j = k
              · subst e; exact ⟨by omega, fun h => by omega⟩
              · exact hd.out j (by omega))
            exact ⟨k + 1, by go_num, by omega, H1⟩
          case measure => simp [intOf]; omega
    · go_wp2
      go_ret
      exact ⟨⟨true, rfl, by simp only [true_iff]; exact HI.out.2 fun j hj => hd.out j (by omega)⟩, hb2⟩

set_option maxHeartbeats 1000000 in
set_option maxRecDepth 100000 in
theorem ref_ok (A : Option Addr) (c B : Nat) (zs : List Int) (w : World) (hr : Rd w B A (zs.map (Value.int .u64))) (hn : zs.length ≤ 100000) :
    Calls Try.prog 15 #[.slice A zs.length c] w fun e w' => Says (Ok zs.length (at' zs)) e ∧ w = w' := by
  have hcell : ∀ k, k < zs.length → ∃ b off, A = some ⟨b, off, none⟩ ∧ ∀ j, j < zs.length → w.cell? ⟨b, off + j, none⟩ = some (.int .u64 (at' zs j)) := fun k hk => by
    obtain ⟨b, off, e, _, _⟩ := hr.at_ (k := k) (by simpa using hk)
    refine ⟨b, off, e, fun j hj => ?_⟩
    obtain ⟨b', off', e', _, hc⟩ := hr.at_ (k := j) (by simpa using hj)
    rw [e] at e'
    cases e'
    rw [hc]
    simp [at', hj]
  have HC : Hid (∀ k, k < zs.length → ∃ b off, A = some ⟨b, off, none⟩ ∧ ∀ j, j < zs.length → w.cell? ⟨b, off + j, none⟩ = some (.int .u64 (at' zs j))) := hcell
  clear hcell hr
  obtain ⟨d, hd⟩ : ∃ d, d = at' zs := ⟨_, rfl⟩
  obtain ⟨n, hlen⟩ : ∃ n, n = zs.length := ⟨_, rfl⟩
  rw [← hlen, ← hd] at HC ⊢
  rw [← hlen] at hn
  clear hlen hd
  go_enter Try.func15, Try.ntmps15
  go_wp2_with fail
  go_loop [8] (fun vi => ∃ k : Nat, vi = .int .i64 k ∧ k ≤ n ∧ Hid (∀ i, i < k → d i < 1099511627776 + n) ∧ Hid (∀ i j, j < i → i < k → d j ≠ d i)) (fun vi => n - (intOf vi).toNat)
  case atStart => exact ⟨0, rfl, Nat.zero_le _, (show ∀ i, i < 0 → _ from fun i h => by omega), (show ∀ i j, j < i → i < 0 → _ from fun i j h1 h => by omega)⟩
  case round =>
    obtain ⟨k, rfl, hk, hd1, hd2⟩ := hrel
    by_cases hkn : k < n
    · obtain ⟨b, off, rfl, hcs⟩ := HC.out k hkn
      have hck := hcs k hkn
      have HCS : Hid (∀ j, j < n → w.cell? ⟨b, off + j, none⟩ = some (.int .u64 (d j))) := hcs
      clear hcs HC
      by_cases hbig : 1099511627776 + (n : Int) ≤ d k
      · go_wp2
        go_ret
        exact ⟨⟨false, rfl, by simp only [Bool.false_eq_true, false_iff]; intro hok; have := hok.1 k hkn; omega⟩, rfl⟩
      · go_wp2_with fail
        go_loop [5] (fun vj => ∃ q : Nat, vj = .int .i64 q ∧ q ≤ k ∧ Hid (∀ j, j < q → d j ≠ d k)) (fun vj => k - (intOf vj).toNat)
        case atStart => exact ⟨0, rfl, Nat.zero_le _, (show ∀ j, j < 0 → _ from fun j h => by omega)⟩
        case round =>
          obtain ⟨q, rfl, hq, hdq⟩ := hrel
          by_cases hqk : q < k
          · have hcq := HCS.out q (by omega)
            by_cases heq : d q = d k
            · have hx : (d q == d k) = true := by simpa using heq
              have HE : Hid (d q = d k) := heq
              clear heq
              go_wp2
              go_ret
              exact ⟨⟨false, rfl, by simp only [Bool.false_eq_true, false_iff]; intro hok; exact hok.2 k q hqk hkn HE.out⟩, rfl⟩
            · have hx : (d q == d k) = false := by simpa using heq
              go_wp2
              go_round
              case rel =>
                have H1 : Hid (∀ j, j < q + 1 → d j ≠ d k) := (show ∀ j, j < q + 1 → d j ≠ d k by
                  intro j h1
                  by_cases e : j = q
                  · subst e; exact heq
                  · exact hdq.out j (by omega))
                exact ⟨q + 1, by go_num, by omega, H1⟩
              case measure => simp [intOf]; omega
          · go_wp2
            go_round
            case rel =>
              have H1 : Hid (∀ i, i < k + 1 → d i < 1099511627776 + n) := (show ∀ i, i < k + 1 → d i < 1099511627776 + n by
                intro i h1
                by_cases e : i = k
                · subst e; omega
                · exact hd1.out i (by omega))
              have H2 : Hid (∀ i j, j < i → i < k + 1 → d j ≠ d i) := (show ∀ i j, j < i → i < k + 1 → d j ≠ d i by
                intro i j h1 h2
                by_cases e : i = k
                · subst e; exact hdq.out j (by omega)
                · exact hd2.out i j h1 (by omega))
              exact ⟨k + 1, by go_num, by omega, H1, H2⟩
            case measure => simp [intOf]; omega
    · go_wp2
      go_ret
      exact ⟨⟨true, rfl, by simp only [true_iff]; exact ⟨fun i hi => hd1.out i (by omega), fun i j h1 h2 => hd2.out i j h1 (by omega)⟩⟩, rfl⟩
end Go.Proofs.Ytnkpljcfmifinaa.fresh
