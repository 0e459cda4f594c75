/- The library's sort at numbers of kind uint64, second part: a range turned about; heaps. -/
import Derived.Test.YtnkpljcfmifinaaSortA
import Derived.Test.YtnkpljcfmifinaaHeaps
namespace Go.Proofs.Ytnkpljcfmifinaa.sorts
open Go.RowKit Go.Proofs.Ytnkpljcfmifinaa.base Go.Proofs.Ytnkpljcfmifinaa.swaps

set_option maxRecDepth 100000 in
theorem reverse_ok (g n c a b : Nat) (d0 : Nat → Int) (w : World) (hrow : Row w g n d0) (hab : a < b) (hbn : b ≤ n) (hn : n ≤ 100000000) :
    Calls Try.prog 24 #[.slice (some ⟨g, 0, none⟩) n c, .int .i64 a, .int .i64 b] w fun e w' =>
      e = .returned (.tuple #[]) ∧ ∃ d, Row w' g n d ∧ RP a b d0 d ∧ w.grownBy w' (some g) := by
  go_enter Try.func24, Try.ntmps24
  go_wp2
  go_loopw [6, 7] (fun i j wr => ∃ (p q : Nat) (d : Nat → Int), i = .int .i64 p ∧ j = .int .i64 ((q : Int) - 1) ∧ a ≤ p ∧ p ≤ q + 1 ∧ q ≤ b ∧ p ≤ b ∧ Row wr g n d ∧ RP a b d0 d ∧ w.grownBy wr (some g)) (fun i _ _ => b - (intOf i).toNat)
  case atStart => exact ⟨a, b, d0, rfl, rfl, by omega, by omega, by omega, by omega, hrow, .refl, World.grownBy.refl _ _⟩
  case round =>
    obtain ⟨p, q, d, rfl, rfl, hp, hpq, hq, hpb, hr, hrp, hg⟩ := hrel
    by_cases hlt : p + 1 < q
    · have hcp : wr.cell? ⟨g, p, none⟩ = some (.int .u64 (d p)) := hr.cell (by omega)
      have hcq : wr.cell? ⟨g, q - 1, none⟩ = some (.int .u64 (d (q - 1))) := hr.cell (by omega)
      have hfq : wr.frozen? ⟨g, q - 1, none⟩ = false := hr.frozen _
      have hfp : wr.frozen? ⟨g, p, none⟩ = false := hr.frozen _
      go_wp2
      go_region
      go_wp2
      go_roundw
      case rel =>
        refine ⟨p + 1, q - 1, swp d p (q - 1), by go_num, by go_num, by omega, by omega, by omega, by omega, Row.swap hr p (q - 1), hrp.trans (.one _ ⟨by omega, by omega⟩ ⟨by omega, by omega⟩), ?_⟩
        exact grown_trans (grown_trans (grown_drew hg 1) (grown_set _ _ _ _)) (grown_set _ _ _ _)
      case measure => simp [intOf]; omega
    · go_wp2
      first | go_end0 | refine bodyPost_ret (results_none rfl _ _ _) rfl ?_
      exact ⟨rfl, d, hr, hrp, hg⟩

set_option maxHeartbeats 2000000 in
set_option maxRecDepth 100000 in
theorem sift_ok (g n c lo hi f : Nat) (d0 : Nat → Int) (w : World) (hrow : Row w g n d0) (hlo : lo ≤ hi) (hbn : f + hi ≤ n) (hn : n ≤ 100000000) (hs0 : Sift f lo hi lo d0) :
    Calls Try.prog 31 #[.slice (some ⟨g, 0, none⟩) n c, .int .i64 lo, .int .i64 hi, .int .i64 f] w fun e w' =>
      e = .returned (.tuple #[]) ∧ ∃ d, Row w' g n d ∧ RP f (f + hi) d0 d ∧ Heap f lo hi d ∧ w.grownBy w' (some g) := by
  have hs0' : Hid (Sift f lo hi lo d0) := hs0
  clear hs0
  go_enter Try.func31, Try.ntmps31
  go_wp2
  go_loopw [8] (fun i wr => ∃ (r : Nat) (d : Nat → Int), i = .int .i64 r ∧ r ≤ hi ∧ Hid (Sift f lo hi r d) ∧ Row wr g n d ∧ RP f (f + hi) d0 d ∧ w.grownBy wr (some g)) (fun i _ => hi - (intOf i).toNat)
  case atStart => exact ⟨lo, d0, rfl, hlo, hs0', hrow, .refl, World.grownBy.refl _ _⟩
  case round =>
    obtain ⟨r, d, rfl, hrh, hs, hr, hrp, hg⟩ := hrel
    by_cases hleaf : hi ≤ 2 * r + 1
    · go_wp2
      first | go_end0 | refine bodyPost_ret (results_none rfl _ _ _) rfl ?_
      exact ⟨rfl, d, hr, hrp, hs.out.leaf hleaf, hg⟩
    · have hc0 : wr.cell? ⟨g, f + r, none⟩ = some (.int .u64 (d (f + r))) := hr.cell (by omega)
      have hc1 : wr.cell? ⟨g, f + (2 * r + 1), none⟩ = some (.int .u64 (d (f + (2 * r + 1)))) := hr.cell (by omega)
      have hf0 : wr.frozen? ⟨g, f + r, none⟩ = false := hr.frozen _
      have hf1 : wr.frozen? ⟨g, f + (2 * r + 1), none⟩ = false := hr.frozen _
      have v0 : IntKind.i64.wrap ((f : Int) + (r : Int)) = (f : Int) + (r : Int) := IntWalk.i64_in _ (by omega)
      have t0 : ((f : Int) + (r : Int)).toNat = f + r := by omega
      have n0 : 0 ≤ (f : Int) + (r : Int) := by omega
      have l0 : (f : Int) + (r : Int) < (n : Int) := by omega
      have v2 : IntKind.i64.wrap ((f : Int) + (2 * (r : Int) + 1)) = (f : Int) + (2 * (r : Int) + 1) := IntWalk.i64_in _ (by omega)
      have t2 : ((f : Int) + (2 * (r : Int) + 1)).toNat = f + (2 * r + 1) := by omega
      have n2 : 0 ≤ (f : Int) + (2 * (r : Int) + 1) := by omega
      have l2 : (f : Int) + (2 * (r : Int) + 1) < (n : Int) := by omega
      by_cases h2 : 2 * r + 2 < hi
      · have hc2 : wr.cell? ⟨g, f + (2 * r + 1) + 1, none⟩ = some (.int .u64 (d (f + (2 * r + 1) + 1))) := hr.cell (by omega)
        have b1 : 2 * (r : Int) + 1 + 1 < (hi : Int) := by omega
        have v1 : IntKind.i64.wrap (2 * (r : Int) + 1 + 1) = 2 * (r : Int) + 1 + 1 := IntWalk.i64_in _ (by omega)
        by_cases hlt : d (f + (2 * r + 1)) < d (f + (2 * r + 1) + 1)
        · go_wp2_with fail
          go_quiet ((go_at_call 26; exact Calls.quiet_of_same (less_any _ _ _)))
          go_wp2_with fail
          have v3 : IntKind.i64.wrap ((f : Int) + (2 * (r : Int) + 1 + 1)) = (f : Int) + (2 * (r : Int) + 1 + 1) := IntWalk.i64_in _ (by omega)
          have t3 : ((f : Int) + (2 * (r : Int) + 1 + 1)).toNat = f + (2 * r + 1 + 1) := by omega
          have n3 : 0 ≤ (f : Int) + (2 * (r : Int) + 1 + 1) := by omega
          have l3 : (f : Int) + (2 * (r : Int) + 1 + 1) < (n : Int) := by omega
          have hc3 : wr.cell? ⟨g, f + (2 * r + 1 + 1), none⟩ = some (.int .u64 (d (f + (2 * r + 1 + 1)))) := hr.cell (by omega)
          have hf3 : wr.frozen? ⟨g, f + (2 * r + 1 + 1), none⟩ = false := hr.frozen _
          by_cases hup : d (f + r) < d (f + (2 * r + 1 + 1))
          · go_quiet ((go_at_call 26; exact less_more _ _ _ _ _))
            go_wp2_with fail
            go_region
            go_wp2
            go_roundw
            case rel =>
              refine ⟨(2 * r + 1 + 1), swp d (f + r) (f + (2 * r + 1 + 1)), by go_num, by omega, hs.out.down (by unfold Child; omega) (by omega) (fun x hx hxh => by rcases hx with e | e <;> subst e <;> first | (rw [show f + (2 * r + 2) = f + (2 * r + 1 + 1) by omega]; omega) | (rw [show f + (2 * r + 1 + 1) = f + (2 * r + 1) + 1 by omega]; omega)) (by omega), Row.swap hr _ _, hrp.trans (.one _ ⟨by omega, by omega⟩ ⟨by omega, by omega⟩), ?_⟩
              exact grown_trans (grown_trans (grown_drew hg _) (grown_set _ _ _ _)) (grown_set _ _ _ _)
            case measure => simp [intOf]; omega
          · go_quiet ((go_at_call 26; exact less_more _ _ _ _ _))
            go_wp2
            first | go_end0 | refine bodyPost_ret (results_none rfl _ _ _) rfl ?_
            exact ⟨rfl, d, hr, hrp, hs.out.stop (ch := (2 * r + 1 + 1)) (fun x hx hxh => by rcases hx with e | e <;> subst e <;> first | (rw [show f + (2 * r + 2) = f + (2 * r + 1 + 1) by omega]; omega) | (rw [show f + (2 * r + 1 + 1) = f + (2 * r + 1) + 1 by omega]; omega)) (by omega), grown_drew hg _⟩
        · go_wp2_with fail
          go_quiet ((go_at_call 26; exact Calls.quiet_of_same (less_any _ _ _)))
          go_wp2_with fail
          by_cases hup : d (f + r) < d (f + (2 * r + 1))
          · go_quiet ((go_at_call 26; exact less_more _ _ _ _ _))
            go_wp2_with fail
            go_region
            go_wp2
            go_roundw
            case rel =>
              refine ⟨(2 * r + 1), swp d (f + r) (f + (2 * r + 1)), by go_num, by omega, hs.out.down (by unfold Child; omega) (by omega) (fun x hx hxh => by rcases hx with e | e <;> subst e <;> first | omega | (rw [show f + (2 * r + 2) = f + (2 * r + 1) + 1 by omega]; omega)) (by omega), Row.swap hr _ _, hrp.trans (.one _ ⟨by omega, by omega⟩ ⟨by omega, by omega⟩), ?_⟩
              exact grown_trans (grown_trans (grown_drew hg _) (grown_set _ _ _ _)) (grown_set _ _ _ _)
            case measure => simp [intOf]; omega
          · go_quiet ((go_at_call 26; exact less_more _ _ _ _ _))
            go_wp2
            first | go_end0 | refine bodyPost_ret (results_none rfl _ _ _) rfl ?_
            exact ⟨rfl, d, hr, hrp, hs.out.stop (ch := (2 * r + 1)) (fun x hx hxh => by rcases hx with e | e <;> subst e <;> first | omega | (rw [show f + (2 * r + 2) = f + (2 * r + 1) + 1 by omega]; omega)) (by omega), grown_drew hg _⟩
      · have hdec : decide (2 * (r : Int) + 1 + 1 < (hi : Int)) = false := by simp; omega
        go_wp2_with fail
        go_quiet (fail)
        go_wp2_with fail
        by_cases hup : d (f + r) < d (f + (2 * r + 1))
        · go_quiet ((go_at_call 26; exact less_more _ _ _ _ _))
          go_wp2_with fail
          go_region
          go_wp2
          go_roundw
          case rel =>
            refine ⟨(2 * r + 1), swp d (f + r) (f + (2 * r + 1)), by go_num, by omega, hs.out.down (by unfold Child; omega) (by omega) (fun x hx hxh => by rcases hx with e | e <;> subst e <;> omega) (by omega), Row.swap hr _ _, hrp.trans (.one _ ⟨by omega, by omega⟩ ⟨by omega, by omega⟩), ?_⟩
            exact grown_trans (grown_trans (grown_drew hg _) (grown_set _ _ _ _)) (grown_set _ _ _ _)
          case measure => simp [intOf]; omega
        · go_quiet ((go_at_call 26; exact less_more _ _ _ _ _))
          go_wp2
          first | go_end0 | refine bodyPost_ret (results_none rfl _ _ _) rfl ?_
          exact ⟨rfl, d, hr, hrp, hs.out.stop (ch := (2 * r + 1)) (fun x hx hxh => by rcases hx with e | e <;> subst e <;> omega) (by omega), grown_drew hg _⟩
end Go.Proofs.Ytnkpljcfmifinaa.sorts
