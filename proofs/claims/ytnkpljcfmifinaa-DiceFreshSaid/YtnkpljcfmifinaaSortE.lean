/- The library's sort at numbers of kind uint64, fifth part: parting a range at a number. -/
import Derived.Test.YtnkpljcfmifinaaSortA
namespace Go.Proofs.Ytnkpljcfmifinaa.sorts
open Go.RowKit Go.Proofs.Ytnkpljcfmifinaa.base Go.Proofs.Ytnkpljcfmifinaa.swaps

theorem part_end {a b j : Nat} {d : Nat → Int} {P : Int} (haj : a ≤ j) (h0 : d a = P) (h1 : ∀ k, a < k → k < j + 1 → d k < P) (h2 : ∀ k, j < k → k < b → P ≤ d k) :
    swp d j a j = P ∧ (∀ k, a ≤ k → k < j → swp d j a k < P) ∧ ∀ k, j < k → k < b → P ≤ swp d j a k := by
  refine ⟨by simp [swp, h0], fun k k1 k2 => ?_, fun k k1 k2 => ?_⟩
  · unfold swp
    rw [if_neg (by omega)]
    by_cases e : k = a
    · rw [if_pos e]; exact h1 j (by omega) (by omega)
    · rw [if_neg e]; exact h1 k (by omega) (by omega)
  · unfold swp
    rw [if_neg (by omega), if_neg (by omega)]
    exact h2 k k1 k2

set_option maxHeartbeats 20000000 in
set_option maxRecDepth 100000 in
theorem part_ok (g n c a b p : Nat) (d0 : Nat → Int) (w : World) (hrow : Row w g n d0) (hap : a ≤ p) (hpb : p < b) (hbn : b ≤ n) (hn : n ≤ 100000000) :
    Calls Try.prog 28 #[.slice (some ⟨g, 0, none⟩) n c, .int .i64 a, .int .i64 b, .int .i64 p] w fun e w' =>
      ∃ (m : Nat) (y : Bool) (d : Nat → Int), e = .returned (.tuple #[.int .i64 m, .bool y]) ∧ a ≤ m ∧ m < b ∧ Row w' g n d ∧ RP a b d0 d ∧ d m = d0 p ∧ (∀ k, a ≤ k → k < m → d k < d0 p) ∧ (∀ k, m < k → k < b → d0 p ≤ d k) ∧ w.grownBy w' (some g) := by
  have hca : w.cell? ⟨g, a, none⟩ = some (.int .u64 (d0 a)) := hrow.cell (by omega)
  have hcp : w.cell? ⟨g, p, none⟩ = some (.int .u64 (d0 p)) := hrow.cell (by omega)
  have hfa : w.frozen? ⟨g, a, none⟩ = false := hrow.frozen _
  have hfp : w.frozen? ⟨g, p, none⟩ = false := hrow.frozen _
  obtain ⟨v', hy'⟩ := cell?_setCell_some (w := w) (p := ⟨g, a, none⟩) (x := .int .u64 (d0 p)) (q := ⟨g, p, none⟩) hcp
  obtain ⟨P, hP⟩ : ∃ P, P = d0 p := ⟨_, rfl⟩
  have hda' : Hid (swp d0 a p a = P) := (by rw [hP]; simp [swp] : swp d0 a p a = P)
  have hrp' : RP a b d0 (swp d0 a p) := .one _ ⟨by omega, by omega⟩ ⟨by omega, by omega⟩
  have HP : Hid (P = d0 p) := hP
  clear hP
  go_enter Try.func28, Try.ntmps28
  go_wp2_with fail
  go_region
  go_wp2_with fail
  obtain ⟨d, hd⟩ : ∃ d, d = swp d0 a p := ⟨_, rfl⟩
  have hr : Row (((w.setCell ⟨g, a, none⟩ (.int .u64 (d0 p))).setCell ⟨g, p, none⟩ (.int .u64 (d0 a))).drew) g n d := by rw [hd]; exact Row.drew (Row.swap hrow a p)
  have hg : w.grownBy (((w.setCell ⟨g, a, none⟩ (.int .u64 (d0 p))).setCell ⟨g, p, none⟩ (.int .u64 (d0 a))).drew) (some g) := grown_drew (grown_trans (grown_set _ _ _ _) (grown_set _ _ _ _)) 1
  have hda : Hid (d a = P) := by rw [hd]; exact hda'
  have hrp : RP a b d0 d := by rw [hd]; exact hrp'
  have hlo : Hid (∀ k, a < k → k < a + 1 → d k < P) := (show ∀ k, a < k → k < a + 1 → d k < P by intro k h1 h2; omega)
  have hhi : Hid (∀ k, b - 1 < k → k < b → P ≤ d k) := (show ∀ k, b - 1 < k → k < b → P ≤ d k by intro k h1 h2; omega)
  obtain ⟨i0, hi0e⟩ : ∃ i0, i0 = a + 1 := ⟨_, rfl⟩
  obtain ⟨j, hje⟩ : ∃ j, j = b - 1 := ⟨_, rfl⟩
  have hi0 : a + 1 ≤ i0 := by omega
  have hij0 : i0 ≤ j + 1 := by omega
  have hjb : j < b := by omega
  have ei : (a : Int) + 1 = (i0 : Int) := by omega
  have ej : (b : Int) - 1 = (j : Int) := by omega
  rw [← hi0e] at hlo
  rw [← hje] at hhi
  rw [ei, ej]
  clear hda' hrp' hd hi0e hje ei ej hca hcp hfa hfp hy'
  go_loopw [10] (fun vi wr => ∃ i : Nat, vi = .int .i64 i ∧ i0 ≤ i ∧ i ≤ j + 1 ∧ Row wr g n d ∧ Hid (∀ k, a < k → k < i → d k < P) ∧ w.grownBy wr (some g)) (fun vi _ => j + 1 - (intOf vi).toNat)
  case atStart => exact ⟨i0, rfl, Nat.le_refl _, hij0, hr, hlo, hg⟩
  case round =>
    clear hr hlo hg
    obtain ⟨i, rfl, hi, hij, hr, hlo, hg⟩ := hrel
    have hca : wr.cell? ⟨g, a, none⟩ = some (.int .u64 P) := by rw [hr.cell (by omega), hda.out]
    by_cases hgo : i ≤ j ∧ d i < P
    · obtain ⟨hc, hl⟩ := hgo
      have hci : wr.cell? ⟨g, i, none⟩ = some (.int .u64 (d i)) := hr.cell (by omega)
      go_wp2_with fail
      go_quiet ((go_at_call 26; exact Calls.quiet_of_same (less_any _ _ _)))
      go_wp2
      go_roundw
      case rel =>
        have H1 : Hid (∀ k, a < k → k < i + 1 → d k < P) := (show ∀ k, a < k → k < i + 1 → d k < P by
          intro k h1 h2
          by_cases e : k = i
          · subst e; omega
          · exact hlo.out k h1 (by omega))
        exact ⟨i + 1, by go_num, by omega, by omega, hr, H1, grown_drew hg _⟩
      case measure => simp [intOf]; omega
    · have HST : Hid (j < i ∨ P ≤ d i) := (show j < i ∨ P ≤ d i by omega)
      by_cases hc : i ≤ j
      have hci : wr.cell? ⟨g, i, none⟩ = some (.int .u64 (d i)) := hr.cell (by omega)
      have hl : decide (d i < P) = false := by simp; omega
      clear hgo
      go_wp2_with fail
      go_quiet ((go_at_call 26; exact Calls.quiet_of_same (less_any _ _ _)))
      clear hci hl
      rotate_left
      have hdec : decide ((i : Int) ≤ (j : Int)) = false := by simp; omega
      clear hgo
      go_wp2_with fail
      go_quiet (fail)
      clear hdec
      all_goals
        clear hca hc
        go_wp2_with fail
        go_loopw [11] (fun vj wr => ∃ j' : Nat, vj = .int .i64 j' ∧ j' ≤ j ∧ i ≤ j' + 1 ∧ Row wr g n d ∧ Hid (∀ k, j' < k → k < b → P ≤ d k) ∧ w.grownBy wr (some g)) (fun vj _ => (intOf vj).toNat)
        case atStart => exact ⟨j, rfl, Nat.le_refl _, hij, hr, hhi, grown_drew hg _⟩
        case round =>
          clear hr hg
          obtain ⟨j', rfl, hj', hij', hr, hhi', hg⟩ := hrel
          have hca : wr.cell? ⟨g, a, none⟩ = some (.int .u64 P) := by rw [hr.cell (by omega), hda.out]
          have hcj : wr.cell? ⟨g, j', none⟩ = some (.int .u64 (d j')) := hr.cell (by omega)
          by_cases hgo : i ≤ j' ∧ P ≤ d j'
          · obtain ⟨hc, hl⟩ := hgo
            have hx : decide (d j' < P) = false := by simp; omega
            go_wp2_with fail
            go_quiet ((go_at_call 26; exact Calls.quiet_of_same (less_any _ _ _)))
            go_wp2
            go_roundw
            case rel =>
              have H1 : Hid (∀ k, j' - 1 < k → k < b → P ≤ d k) := (show ∀ k, j' - 1 < k → k < b → P ≤ d k by
                intro k h1 h2
                by_cases e : k = j'
                · subst e; omega
                · exact hhi'.out k (by omega) h2)
              exact ⟨j' - 1, by go_num, by omega, by omega, hr, H1, grown_drew hg _⟩
            case measure => simp [intOf]; omega
          · by_cases hc : i ≤ j'
            · have hl : d j' < P := by omega
              have hli : P ≤ d i := by have := HST.out; omega
              have hne : i < j' := by
                by_cases e : i = j'
                · subst e; omega
                · omega
              have hci : wr.cell? ⟨g, i, none⟩ = some (.int .u64 (d i)) := hr.cell (by omega)
              have hfi : wr.frozen? ⟨g, i, none⟩ = false := hr.frozen _
              have hfj : wr.frozen? ⟨g, j', none⟩ = false := hr.frozen _
              clear hgo
              go_wp2_with fail
              go_quiet ((go_at_call 26; exact Calls.quiet_of_same (less_any _ _ _)))
              go_wp2_with fail
              go_region
              have H0 : Hid (swp d i j' a = P) := (show swp d i j' a = P by unfold swp; rw [if_neg (by omega), if_neg (by omega)]; exact hda.out)
              have H1 : Hid (∀ k, a < k → k < i + 1 → swp d i j' k < P) := (show ∀ k, a < k → k < i + 1 → swp d i j' k < P by
                intro k h1 h2
                unfold swp
                by_cases e : k = i
                · rw [if_pos e]; omega
                · rw [if_neg e, if_neg (by omega)]; exact hlo.out k h1 (by omega))
              have H2 : Hid (∀ k, j' - 1 < k → k < b → P ≤ swp d i j' k) := (show ∀ k, j' - 1 < k → k < b → P ≤ swp d i j' k by
                intro k h1 h2
                unfold swp
                rw [if_neg (by omega)]
                by_cases e : k = j'
                · rw [if_pos e]; exact hli
                · rw [if_neg e]; exact hhi'.out k (by omega) h2)
              have HP2 : RP a b d0 (swp d i j') := hrp.trans (.one _ ⟨by omega, by omega⟩ ⟨by omega, by omega⟩)
              go_wp2_with fail
              go_loopw [10, 11] (fun vi vj wr => ∃ (i j : Nat) (d : Nat → Int), vi = .int .i64 i ∧ vj = .int .i64 j ∧ a + 1 ≤ i ∧ i ≤ j + 1 ∧ j < b ∧ Row wr g n d ∧ RP a b d0 d ∧ Hid (d a = P) ∧ Hid (∀ k, a < k → k < i → d k < P) ∧ Hid (∀ k, j < k → k < b → P ≤ d k) ∧ w.grownBy wr (some g)) (fun vi vj _ => (intOf vj + 1 - intOf vi).toNat)
              case atStart => exact ⟨i + 1, j' - 1, swp d i j', by go_num, by go_num, by omega, by omega, by omega, Row.swap hr i j', HP2, H0, H1, H2, grown_trans (grown_trans (grown_drew hg _) (grown_set _ _ _ _)) (grown_set _ _ _ _)⟩
              case round =>
                clear hr hrp hda hlo hhi hg hhi' HST  HP2 H0 H1 H2 hi hij hj' hij' hl hli hne hci hcj hca hfi hfj hc hi0 hij0 hjb
                obtain ⟨i0, j, d, rfl, rfl, hi0, hij0, hjb, hr, hrp, hda, hlo, hhi, hg⟩ := hrel
                go_wp2_with fail
                go_loopw [10] (fun vi wr => ∃ i : Nat, vi = .int .i64 i ∧ i0 ≤ i ∧ i ≤ j + 1 ∧ Row wr g n d ∧ Hid (∀ k, a < k → k < i → d k < P) ∧ w.grownBy wr (some g)) (fun vi _ => j + 1 - (intOf vi).toNat)
                case atStart => exact ⟨i0, rfl, Nat.le_refl _, hij0, hr, hlo, hg⟩
                case round =>
                  clear hr hlo hg
                  obtain ⟨i, rfl, hi, hij, hr, hlo, hg⟩ := hrel
                  have hca : wr.cell? ⟨g, a, none⟩ = some (.int .u64 P) := by rw [hr.cell (by omega), hda.out]
                  by_cases hgo : i ≤ j ∧ d i < P
                  · obtain ⟨hc, hl⟩ := hgo
                    have hci : wr.cell? ⟨g, i, none⟩ = some (.int .u64 (d i)) := hr.cell (by omega)
                    go_wp2_with fail
                    go_quiet ((go_at_call 26; exact Calls.quiet_of_same (less_any _ _ _)))
                    go_wp2
                    go_roundw
                    case rel =>
                      have H1 : Hid (∀ k, a < k → k < i + 1 → d k < P) := (show ∀ k, a < k → k < i + 1 → d k < P by
                        intro k h1 h2
                        by_cases e : k = i
                        · subst e; omega
                        · exact hlo.out k h1 (by omega))
                      exact ⟨i + 1, by go_num, by omega, by omega, hr, H1, grown_drew hg _⟩
                    case measure => simp [intOf]; omega
                  · have HST : Hid (j < i ∨ P ≤ d i) := (show j < i ∨ P ≤ d i by omega)
                    by_cases hc : i ≤ j
                    have hci : wr.cell? ⟨g, i, none⟩ = some (.int .u64 (d i)) := hr.cell (by omega)
                    have hl : decide (d i < P) = false := by simp; omega
                    clear hgo
                    go_wp2_with fail
                    go_quiet ((go_at_call 26; exact Calls.quiet_of_same (less_any _ _ _)))
                    clear hci hl
                    rotate_left
                    have hdec : decide ((i : Int) ≤ (j : Int)) = false := by simp; omega
                    clear hgo
                    go_wp2_with fail
                    go_quiet (fail)
                    clear hdec
                    all_goals
                      clear hca hc
                      go_wp2_with fail
                      go_loopw [11] (fun vj wr => ∃ j' : Nat, vj = .int .i64 j' ∧ j' ≤ j ∧ i ≤ j' + 1 ∧ Row wr g n d ∧ Hid (∀ k, j' < k → k < b → P ≤ d k) ∧ w.grownBy wr (some g)) (fun vj _ => (intOf vj).toNat)
                      case atStart => exact ⟨j, rfl, Nat.le_refl _, hij, hr, hhi, grown_drew hg _⟩
                      case round =>
                        clear hr hg
                        obtain ⟨j', rfl, hj', hij', hr, hhi', hg⟩ := hrel
                        have hca : wr.cell? ⟨g, a, none⟩ = some (.int .u64 P) := by rw [hr.cell (by omega), hda.out]
                        have hcj : wr.cell? ⟨g, j', none⟩ = some (.int .u64 (d j')) := hr.cell (by omega)
                        by_cases hgo : i ≤ j' ∧ P ≤ d j'
                        · obtain ⟨hc, hl⟩ := hgo
                          have hx : decide (d j' < P) = false := by simp; omega
                          go_wp2_with fail
                          go_quiet ((go_at_call 26; exact Calls.quiet_of_same (less_any _ _ _)))
                          go_wp2
                          go_roundw
                          case rel =>
                            have H1 : Hid (∀ k, j' - 1 < k → k < b → P ≤ d k) := (show ∀ k, j' - 1 < k → k < b → P ≤ d k by
                              intro k h1 h2
                              by_cases e : k = j'
                              · subst e; omega
                              · exact hhi'.out k (by omega) h2)
                            exact ⟨j' - 1, by go_num, by omega, by omega, hr, H1, grown_drew hg _⟩
                          case measure => simp [intOf]; omega
                        · by_cases hc : i ≤ j'
                          · have hl : d j' < P := by omega
                            have hli : P ≤ d i := by have := HST.out; omega
                            have hne : i < j' := by
                              by_cases e : i = j'
                              · subst e; omega
                              · omega
                            have hci : wr.cell? ⟨g, i, none⟩ = some (.int .u64 (d i)) := hr.cell (by omega)
                            have hfi : wr.frozen? ⟨g, i, none⟩ = false := hr.frozen _
                            have hfj : wr.frozen? ⟨g, j', none⟩ = false := hr.frozen _
                            clear hgo
                            go_wp2_with fail
                            go_quiet ((go_at_call 26; exact Calls.quiet_of_same (less_any _ _ _)))
                            go_wp2_with fail
                            go_region
                            have H0 : Hid (swp d i j' a = P) := (show swp d i j' a = P by unfold swp; rw [if_neg (by omega), if_neg (by omega)]; exact hda.out)
                            have H1 : Hid (∀ k, a < k → k < i + 1 → swp d i j' k < P) := (show ∀ k, a < k → k < i + 1 → swp d i j' k < P by
                              intro k h1 h2
                              unfold swp
                              by_cases e : k = i
                              · rw [if_pos e]; omega
                              · rw [if_neg e, if_neg (by omega)]; exact hlo.out k h1 (by omega))
                            have H2 : Hid (∀ k, j' - 1 < k → k < b → P ≤ swp d i j' k) := (show ∀ k, j' - 1 < k → k < b → P ≤ swp d i j' k by
                              intro k h1 h2
                              unfold swp
                              rw [if_neg (by omega)]
                              by_cases e : k = j'
                              · rw [if_pos e]; exact hli
                              · rw [if_neg e]; exact hhi'.out k (by omega) h2)
                            have HP2 : RP a b d0 (swp d i j') := hrp.trans (.one _ ⟨by omega, by omega⟩ ⟨by omega, by omega⟩)
                            go_wp2_with fail
                            go_roundw
                            case rel => exact ⟨i + 1, j' - 1, swp d i j', by go_num, by go_num, by omega, by omega, by omega, Row.swap hr i j', HP2, H0, H1, H2, grown_trans (grown_trans (grown_drew hg _) (grown_set _ _ _ _)) (grown_set _ _ _ _)⟩
                            case measure => simp [intOf]; omega
                          · have hdec : decide ((i : Int) ≤ (j' : Int)) = false := by simp; omega
                            have hca' : wr.cell? ⟨g, a, none⟩ = some (.int .u64 (d a)) := hr.cell (by omega)
                            have hfa : wr.frozen? ⟨g, a, none⟩ = false := hr.frozen _
                            have hfj : wr.frozen? ⟨g, j', none⟩ = false := hr.frozen _
                            have Q := part_end (show a ≤ j' by omega) hda.out (fun k h1 h2 => hlo.out k h1 (by omega)) (fun k h1 h2 => hhi'.out k h1 h2)
                            have HQ : Hid (swp d j' a j' = P ∧ (∀ k, a ≤ k → k < j' → swp d j' a k < P) ∧ ∀ k, j' < k → k < b → P ≤ swp d j' a k) := Q
                            clear hgo hca Q
                            by_cases hja : j' = a
                            · subst hja
                              clear hcj
                              go_wp2_with fail
                              go_quiet (fail)
                              go_wp2_with fail
                              go_region
                              go_wp2_with fail
                              go_ret2
                              exact ⟨_, _, swp d _ _, rfl, by omega, by omega, Row.swap hr _ _, hrp.trans (.one _ ⟨by omega, by omega⟩ ⟨by omega, by omega⟩), HP.out ▸ HQ.out.1, HP.out ▸ HQ.out.2.1, HP.out ▸ HQ.out.2.2, grown_trans (grown_trans (grown_drew hg _) (grown_set _ _ _ _)) (grown_set _ _ _ _)⟩
                            · have hja' : ¬ a = j' := fun e => hja e.symm
                              go_wp2_with fail
                              go_quiet (fail)
                              go_wp2_with fail
                              go_region
                              go_wp2_with fail
                              go_ret2
                              exact ⟨_, _, swp d _ _, rfl, by omega, by omega, Row.swap hr _ _, hrp.trans (.one _ ⟨by omega, by omega⟩ ⟨by omega, by omega⟩), HP.out ▸ HQ.out.1, HP.out ▸ HQ.out.2.1, HP.out ▸ HQ.out.2.2, grown_trans (grown_trans (grown_drew hg _) (grown_set _ _ _ _)) (grown_set _ _ _ _)⟩
            · have hdec : decide ((i : Int) ≤ (j' : Int)) = false := by simp; omega
              have hca' : wr.cell? ⟨g, a, none⟩ = some (.int .u64 (d a)) := hr.cell (by omega)
              have hfa : wr.frozen? ⟨g, a, none⟩ = false := hr.frozen _
              have hfj : wr.frozen? ⟨g, j', none⟩ = false := hr.frozen _
              have Q := part_end (show a ≤ j' by omega) hda.out (fun k h1 h2 => hlo.out k h1 (by omega)) (fun k h1 h2 => hhi'.out k h1 h2)
              have HQ : Hid (swp d j' a j' = P ∧ (∀ k, a ≤ k → k < j' → swp d j' a k < P) ∧ ∀ k, j' < k → k < b → P ≤ swp d j' a k) := Q
              clear hgo hca Q
              by_cases hja : j' = a
              · subst hja
                clear hcj
                go_wp2_with fail
                go_quiet (fail)
                go_wp2_with fail
                go_region
                go_wp2_with fail
                go_ret2
                exact ⟨_, _, swp d _ _, rfl, by omega, by omega, Row.swap hr _ _, hrp.trans (.one _ ⟨by omega, by omega⟩ ⟨by omega, by omega⟩), HP.out ▸ HQ.out.1, HP.out ▸ HQ.out.2.1, HP.out ▸ HQ.out.2.2, grown_trans (grown_trans (grown_drew hg _) (grown_set _ _ _ _)) (grown_set _ _ _ _)⟩
              · have hja' : ¬ a = j' := fun e => hja e.symm
                go_wp2_with fail
                go_quiet (fail)
                go_wp2_with fail
                go_region
                go_wp2_with fail
                go_ret2
                exact ⟨_, _, swp d _ _, rfl, by omega, by omega, Row.swap hr _ _, hrp.trans (.one _ ⟨by omega, by omega⟩ ⟨by omega, by omega⟩), HP.out ▸ HQ.out.1, HP.out ▸ HQ.out.2.1, HP.out ▸ HQ.out.2.2, grown_trans (grown_trans (grown_drew hg _) (grown_set _ _ _ _)) (grown_set _ _ _ _)⟩
end Go.Proofs.Ytnkpljcfmifinaa.sorts
