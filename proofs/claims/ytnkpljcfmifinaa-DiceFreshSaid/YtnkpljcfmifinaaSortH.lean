/- The library's sort at numbers of kind uint64, eighth part: a few steps of insertion. -/
import Derived.Test.YtnkpljcfmifinaaSortA
namespace Go.Proofs.Ytnkpljcfmifinaa.sorts
open Go.RowKit Go.Proofs.Ytnkpljcfmifinaa.base Go.Proofs.Ytnkpljcfmifinaa.swaps

/-- what lies ahead of the range is no greater than what lies in it -/
def Ahead (a b : Nat) (d : Nat → Int) : Prop := a = 0 ∨ ∀ k, a ≤ k → k < b → d (a - 1) ≤ d k
theorem Ahead.turned {a b a' b' : Nat} {d e : Nat → Int} (h : Ahead a b d) (hp : RP a' b' d e) (ha : a ≤ a') (hb : b' ≤ b) : Ahead a b e := by
  rcases h with h | h
  · exact .inl h
  · by_cases h0 : a = 0
    · exact .inl h0
    · refine .inr fun k h1 h2 => ?_
      rw [hp.out (k := a - 1) (by omega)]
      exact (hp.wide ha hb).all (P := fun x => d (a - 1) ≤ x) h k h1 h2
theorem sorted_swap_above {a i q p : Nat} {d : Nat → Int} (h : Hid (Sorted a i d)) (hq : i ≤ q) (hp : i ≤ p) : Hid (Sorted a i (swp d q p)) :=
  (show Sorted a i (swp d q p) from fun x y h1 h2 h3 => by
    unfold swp
    rw [if_neg (by omega), if_neg (by omega), if_neg (by omega), if_neg (by omega)]
    exact h.out x y h1 h2 h3)
theorem hole_first {a i : Nat} {d : Nat → Int} (h : Hid (Sorted a i d)) (hi : a < i) : Hid (Hole a (i - 1) (i - 1) (swp d i (i - 1))) :=
  (show Hole a (i - 1) (i - 1) (swp d i (i - 1)) from .start fun x y h1 h2 h3 => by
    unfold swp
    rw [if_neg (by omega), if_neg (by omega), if_neg (by omega), if_neg (by omega)]
    exact h.out x y h1 h2 (by omega))
theorem hole_done {a i j : Nat} {d : Nat → Int} (h : Hid (Hole a (i - 1) j d)) (hi : a < i) (hj : j ≤ a ∨ d (j - 1) ≤ d j) : Hid (Sorted a i d) := by
  have := h.out.done hj
  rw [show i - 1 + 1 = i by omega] at this
  exact this
theorem sorted_next {a i : Nat} {d : Nat → Int} (h : Hid (Sorted a i d)) (hi : a < i) (hle : d (i - 1) ≤ d i) : Hid (Sorted a (i + 1) d) :=
  (show Sorted a (i + 1) d from fun x y h1 h2 h3 => by
    by_cases e : y = i
    · subst e
      by_cases e2 : x = y - 1
      · rw [e2]; exact hle
      · have := h.out x (y - 1) h1 (by omega) (by omega); omega
    · exact h.out x y h1 h2 (by omega))

set_option maxHeartbeats 10000000 in
set_option maxRecDepth 100000 in
theorem partial_ok (g n c a b : Nat) (d0 : Nat → Int) (w : World) (hrow : Row w g n d0) (hab : a < b) (hbn : b ≤ n) (hn : n ≤ 100000000) (hah : Ahead a b d0) :
    Calls Try.prog 25 #[.slice (some ⟨g, 0, none⟩) n c, .int .i64 a, .int .i64 b] w fun e w' =>
      ∃ (y : Bool) (d : Nat → Int), e = .returned (.bool y) ∧ Row w' g n d ∧ RP a b d0 d ∧ (y = true → Sorted a b d) ∧ w.grownBy w' (some g) := by
  have HA : Hid (Ahead a b d0) := hah
  clear hah
  go_enter Try.func25, Try.ntmps25
  go_wp2_with fail
  go_loopw [7, 8] (fun vi vj wr => ∃ (i k : Nat) (d : Nat → Int), vi = .int .i64 i ∧ vj = .int .i64 k ∧ k ≤ 5 ∧ a + 1 ≤ i ∧ i ≤ b ∧ Row wr g n d ∧ RP a b d0 d ∧ Hid (Sorted a i d) ∧ w.grownBy wr (some g)) (fun _ vj _ => 5 - (intOf vj).toNat)
  case atStart => exact ⟨a + 1, 0, d0, by go_num, rfl, by omega, by omega, by omega, hrow, .refl, (show Sorted a (a + 1) d0 from fun p q h1 h2 h3 => by omega), World.grownBy.refl _ _⟩
  case round =>
    obtain ⟨i0, k, d, rfl, rfl, hk, hi1, hi2, hr, hrp, hso, hg⟩ := hrel
    by_cases hk5 : k < 5
    · have hk5' : decide ((k : Int) < 5) = true := by simp; omega
      go_wp2_with fail
      go_loopw [7] (fun vi wr => ∃ i : Nat, vi = .int .i64 i ∧ a + 1 ≤ i ∧ i ≤ b ∧ Row wr g n d ∧ Hid (Sorted a i d) ∧ w.grownBy wr (some g)) (fun vi _ => b - (intOf vi).toNat)
      case atStart => exact ⟨i0, rfl, hi1, hi2, hr, hso, hg⟩
      case round =>
        clear hr hso hg hi1 hi2
        obtain ⟨i, rfl, hi1, hi2, hr, hso, hg⟩ := hrel
        by_cases hib : i < b
        · have hci : wr.cell? ⟨g, i, none⟩ = some (.int .u64 (d i)) := hr.cell (by omega)
          have hcp : wr.cell? ⟨g, i - 1, none⟩ = some (.int .u64 (d (i - 1))) := hr.cell (by omega)
          by_cases hlt : d i < d (i - 1)
          · go_wp2_with fail
            go_quiet ((go_at_call 26; exact Calls.quiet_of_same (less_any _ _ _)))
            by_cases h50 : b - a < 50
            · go_wp2
              go_ret
              exact ⟨false, d, rfl, hr, hrp, (fun h => by cases h), grown_drew hg _⟩
            · have hfi : wr.frozen? ⟨g, i, none⟩ = false := hr.frozen _
              have hfp : wr.frozen? ⟨g, i - 1, none⟩ = false := hr.frozen _
              go_wp2_with fail
              go_region
              have hr' := Row.swap hr i (i - 1)
              have hrp' : RP a b d0 (swp d i (i - 1)) := hrp.trans (.one _ ⟨by omega, by omega⟩ ⟨by omega, by omega⟩)
              have hho := hole_first hso (by omega)
              by_cases h3 : 2 ≤ i - a
              · go_wp2_with fail
                go_loopw [9] (fun vj wr => ∃ (q : Nat) (e : Nat → Int), vj = .int .i64 q ∧ a ≤ q ∧ q ≤ i - 1 ∧ Row wr g n e ∧ RP a b d0 e ∧ Hid (Hole a (i - 1) q e) ∧ w.grownBy wr (some g)) (fun vj _ => (intOf vj).toNat)
                case atStart => exact ⟨i - 1, _, by go_num, by omega, by omega, hr', hrp', hho, grown_trans (grown_trans (grown_drew hg _) (grown_set _ _ _ _)) (grown_set _ _ _ _)⟩
                case round =>
                  clear hr hrp hso hg hr' hrp' hho hci hcp hfi hfp hlt
                  obtain ⟨q, e, rfl, hq1, hq2, hr, hrp, hho, hg⟩ := hrel
                  by_cases hq0 : 1 ≤ q
                  · have hcq : wr.cell? ⟨g, q, none⟩ = some (.int .u64 (e q)) := hr.cell (by omega)
                    have hcp : wr.cell? ⟨g, q - 1, none⟩ = some (.int .u64 (e (q - 1))) := hr.cell (by omega)
                    have hfq : wr.frozen? ⟨g, q, none⟩ = false := hr.frozen _
                    have hfp : wr.frozen? ⟨g, q - 1, none⟩ = false := hr.frozen _
                    by_cases hlt : e q < e (q - 1)
                    · have haq : a < q := by
                        rcases HA.out.turned hrp (Nat.le_refl _) (Nat.le_refl _) with h | h
                        · omega
                        · by_cases e1 : a = q
                          · subst e1
                            have := h a (Nat.le_refl _) hab
                            omega
                          · omega
                      go_wp2_with fail
                      go_quiet ((go_at_call 26; exact Calls.quiet_of_same (less_any _ _ _)))
                      go_wp2_with fail
                      go_region
                      go_wp2_with fail
                      go_roundw
                      case rel => exact ⟨q - 1, swp e q (q - 1), by go_num, by omega, by omega, Row.swap hr q (q - 1), hrp.trans (.one _ ⟨by omega, by omega⟩ ⟨by omega, by omega⟩), hho.out.step haq hq2 hlt, grown_trans (grown_trans (grown_drew hg _) (grown_set _ _ _ _)) (grown_set _ _ _ _)⟩
                      case measure => simp [intOf]; omega
                    · have hx : decide (e q < e (q - 1)) = false := by simp; omega
                      have hso := hole_done hho (by omega) (.inr (by omega))
                      go_wp2_with fail
                      go_quiet ((go_at_call 26; exact Calls.quiet_of_same (less_any _ _ _)))
                      clear hx hlt hcq hcp hfq hfp hho
                      by_cases h4 : 2 ≤ b - i
                      · go_wp2_with fail
                        go_loopw [10] (fun vj wr => ∃ (q : Nat) (e : Nat → Int), vj = .int .i64 q ∧ i + 1 ≤ q ∧ q ≤ b ∧ Row wr g n e ∧ RP a b d0 e ∧ Hid (Sorted a i e) ∧ w.grownBy wr (some g)) (fun vj _ => b - (intOf vj).toNat)
                        case atStart => exact ⟨i + 1, _, by go_num, by omega, by omega, hr, hrp, hso, grown_drew hg _⟩
                        case round =>
                          clear hr hrp hso hg
                          obtain ⟨q, e, rfl, hq1, hq2, hr, hrp, hso, hg⟩ := hrel
                          by_cases hqb : q < b
                          · have hcq : wr.cell? ⟨g, q, none⟩ = some (.int .u64 (e q)) := hr.cell (by omega)
                            have hcp : wr.cell? ⟨g, q - 1, none⟩ = some (.int .u64 (e (q - 1))) := hr.cell (by omega)
                            have hfq : wr.frozen? ⟨g, q, none⟩ = false := hr.frozen _
                            have hfp : wr.frozen? ⟨g, q - 1, none⟩ = false := hr.frozen _
                            by_cases hlt : e q < e (q - 1)
                            · go_wp2_with fail
                              go_quiet ((go_at_call 26; exact Calls.quiet_of_same (less_any _ _ _)))
                              go_wp2_with fail
                              go_region
                              go_wp2_with fail
                              go_roundw
                              case rel => exact ⟨q + 1, swp e q (q - 1), by go_num, by omega, by omega, Row.swap hr q (q - 1), hrp.trans (.one _ ⟨by omega, by omega⟩ ⟨by omega, by omega⟩), sorted_swap_above hso (by omega) (by omega), grown_trans (grown_trans (grown_drew hg _) (grown_set _ _ _ _)) (grown_set _ _ _ _)⟩
                              case measure => simp [intOf]; omega
                            · have hx : decide (e q < e (q - 1)) = false := by simp; omega
                              go_wp2_with fail
                              go_quiet ((go_at_call 26; exact Calls.quiet_of_same (less_any _ _ _)))
                              go_wp2_with fail
                              go_roundw
                              case rel => exact ⟨i, k + 1, e, rfl, by go_num, by omega, by omega, by omega, hr, hrp, hso, grown_drew hg _⟩
                              case measure => simp [intOf]; omega
                          · go_wp2_with fail
                            go_roundw
                            case rel => exact ⟨i, k + 1, e, rfl, by go_num, by omega, by omega, by omega, hr, hrp, hso, hg⟩
                            case measure => simp [intOf]; omega
                      · go_wp2_with fail
                        go_roundw
                        case rel => exact ⟨i, k + 1, _, rfl, by go_num, by omega, by omega, by omega, hr, hrp, hso, grown_drew hg _⟩
                        case measure => simp [intOf]; omega
                  · have hso := hole_done hho (by omega) (.inl (by omega))
                    clear hho
                    by_cases h4 : 2 ≤ b - i
                    · go_wp2_with fail
                      go_loopw [10] (fun vj wr => ∃ (q : Nat) (e : Nat → Int), vj = .int .i64 q ∧ i + 1 ≤ q ∧ q ≤ b ∧ Row wr g n e ∧ RP a b d0 e ∧ Hid (Sorted a i e) ∧ w.grownBy wr (some g)) (fun vj _ => b - (intOf vj).toNat)
                      case atStart => exact ⟨i + 1, _, by go_num, by omega, by omega, hr, hrp, hso, hg⟩
                      case round =>
                        clear hr hrp hso hg
                        obtain ⟨q, e, rfl, hq1, hq2, hr, hrp, hso, hg⟩ := hrel
                        by_cases hqb : q < b
                        · have hcq : wr.cell? ⟨g, q, none⟩ = some (.int .u64 (e q)) := hr.cell (by omega)
                          have hcp : wr.cell? ⟨g, q - 1, none⟩ = some (.int .u64 (e (q - 1))) := hr.cell (by omega)
                          have hfq : wr.frozen? ⟨g, q, none⟩ = false := hr.frozen _
                          have hfp : wr.frozen? ⟨g, q - 1, none⟩ = false := hr.frozen _
                          by_cases hlt : e q < e (q - 1)
                          · go_wp2_with fail
                            go_quiet ((go_at_call 26; exact Calls.quiet_of_same (less_any _ _ _)))
                            go_wp2_with fail
                            go_region
                            go_wp2_with fail
                            go_roundw
                            case rel => exact ⟨q + 1, swp e q (q - 1), by go_num, by omega, by omega, Row.swap hr q (q - 1), hrp.trans (.one _ ⟨by omega, by omega⟩ ⟨by omega, by omega⟩), sorted_swap_above hso (by omega) (by omega), grown_trans (grown_trans (grown_drew hg _) (grown_set _ _ _ _)) (grown_set _ _ _ _)⟩
                            case measure => simp [intOf]; omega
                          · have hx : decide (e q < e (q - 1)) = false := by simp; omega
                            go_wp2_with fail
                            go_quiet ((go_at_call 26; exact Calls.quiet_of_same (less_any _ _ _)))
                            go_wp2_with fail
                            go_roundw
                            case rel => exact ⟨i, k + 1, e, rfl, by go_num, by omega, by omega, by omega, hr, hrp, hso, grown_drew hg _⟩
                            case measure => simp [intOf]; omega
                        · go_wp2_with fail
                          go_roundw
                          case rel => exact ⟨i, k + 1, e, rfl, by go_num, by omega, by omega, by omega, hr, hrp, hso, hg⟩
                          case measure => simp [intOf]; omega
                    · go_wp2_with fail
                      go_roundw
                      case rel => exact ⟨i, k + 1, _, rfl, by go_num, by omega, by omega, by omega, hr, hrp, hso, hg⟩
                      case measure => simp [intOf]; omega
              · have hso : Hid (Sorted a i (swp d i (i - 1))) := hole_done hho (by omega) (.inl (by omega))
                by_cases h4 : 2 ≤ b - i
                · go_wp2_with fail
                  go_loopw [10] (fun vj wr => ∃ (q : Nat) (e : Nat → Int), vj = .int .i64 q ∧ i + 1 ≤ q ∧ q ≤ b ∧ Row wr g n e ∧ RP a b d0 e ∧ Hid (Sorted a i e) ∧ w.grownBy wr (some g)) (fun vj _ => b - (intOf vj).toNat)
                  case atStart => exact ⟨i + 1, _, by go_num, by omega, by omega, hr', hrp', hso, grown_trans (grown_trans (grown_drew hg _) (grown_set _ _ _ _)) (grown_set _ _ _ _)⟩
                  case round =>
                    clear hr hrp hso hg hr' hrp' hho hci hcp hfi hfp hlt
                    obtain ⟨q, e, rfl, hq1, hq2, hr, hrp, hso, hg⟩ := hrel
                    by_cases hqb : q < b
                    · have hcq : wr.cell? ⟨g, q, none⟩ = some (.int .u64 (e q)) := hr.cell (by omega)
                      have hcp : wr.cell? ⟨g, q - 1, none⟩ = some (.int .u64 (e (q - 1))) := hr.cell (by omega)
                      have hfq : wr.frozen? ⟨g, q, none⟩ = false := hr.frozen _
                      have hfp : wr.frozen? ⟨g, q - 1, none⟩ = false := hr.frozen _
                      by_cases hlt : e q < e (q - 1)
                      · go_wp2_with fail
                        go_quiet ((go_at_call 26; exact Calls.quiet_of_same (less_any _ _ _)))
                        go_wp2_with fail
                        go_region
                        go_wp2_with fail
                        go_roundw
                        case rel => exact ⟨q + 1, swp e q (q - 1), by go_num, by omega, by omega, Row.swap hr q (q - 1), hrp.trans (.one _ ⟨by omega, by omega⟩ ⟨by omega, by omega⟩), sorted_swap_above hso (by omega) (by omega), grown_trans (grown_trans (grown_drew hg _) (grown_set _ _ _ _)) (grown_set _ _ _ _)⟩
                        case measure => simp [intOf]; omega
                      · have hx : decide (e q < e (q - 1)) = false := by simp; omega
                        go_wp2_with fail
                        go_quiet ((go_at_call 26; exact Calls.quiet_of_same (less_any _ _ _)))
                        go_wp2_with fail
                        go_roundw
                        case rel => exact ⟨i, k + 1, e, rfl, by go_num, by omega, by omega, by omega, hr, hrp, hso, grown_drew hg _⟩
                        case measure => simp [intOf]; omega
                    · go_wp2_with fail
                      go_roundw
                      case rel => exact ⟨i, k + 1, e, rfl, by go_num, by omega, by omega, by omega, hr, hrp, hso, hg⟩
                      case measure => simp [intOf]; omega
                · omega
          · have hx : decide (d i < d (i - 1)) = false := by simp; omega
            go_wp2_with fail
            go_quiet ((go_at_call 26; exact Calls.quiet_of_same (less_any _ _ _)))
            go_wp2
            go_roundw
            case rel => first | exact ⟨i + 1, by go_num, by omega, by omega, hr, sorted_next hso (by omega) (by omega), grown_drew hg _⟩ | ((repeat apply Exists.intro); exact ⟨⟨i + 1, by go_num, by omega, by omega, hr, sorted_next hso (by omega) (by omega), grown_drew hg _⟩, rfl⟩)
            case measure => simp [intOf]; omega
        · have hdec : decide ((i : Int) < (b : Int)) = false := by simp; omega
          have hib' : i = b := by omega
          have HIB : Hid (i = b) := hib'
          clear hib'
          go_wp2_with fail
          go_quiet (fail)
          go_wp2
          go_ret
          exact ⟨true, d, rfl, hr, hrp, fun _ => by have := hso.out; rwa [HIB.out] at this, grown_drew hg _⟩
    · go_wp2
      go_ret
      exact ⟨false, d, rfl, hr, hrp, (fun h => by cases h), hg⟩
end Go.Proofs.Ytnkpljcfmifinaa.sorts
