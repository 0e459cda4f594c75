/- The library's sort at numbers of kind uint64, third part: sorting by a heap. -/
import Derived.Test.YtnkpljcfmifinaaSortB
namespace Go.Proofs.Ytnkpljcfmifinaa.sorts
open Go.RowKit Go.Proofs.Ytnkpljcfmifinaa.base Go.Proofs.Ytnkpljcfmifinaa.swaps

set_option maxHeartbeats 1000000 in
set_option maxRecDepth 100000 in
theorem heap_ok (g n c a b : Nat) (d0 : Nat → Int) (w : World) (hrow : Row w g n d0) (hab : a < b) (hbn : b ≤ n) (hn : n ≤ 100000000) :
    Calls Try.prog 21 #[.slice (some ⟨g, 0, none⟩) n c, .int .i64 a, .int .i64 b] w fun e w' =>
      e = .returned (.tuple #[]) ∧ ∃ d, Row w' g n d ∧ RP a b d0 d ∧ Sorted a b d ∧ w.grownBy w' (some g) := by
  go_enter Try.func21, Try.ntmps21
  go_wp2
  go_loopw [9] (fun i wr => ∃ (k : Nat) (d : Nat → Int), i = .int .i64 ((k : Int) - 1) ∧ k ≤ b - a ∧ Hid (Heap a k (b - a) d) ∧ Row wr g n d ∧ RP a b d0 d ∧ w.grownBy wr (some g)) (fun i _ => (intOf i + 1).toNat)
  case atStart => exact ⟨(b - a - 1) / 2 + 1, d0, by go_num, by omega, (show Heap _ _ _ _ from fun p q h1 h2 h3 => by unfold Child at h2; omega), hrow, .refl, World.grownBy.refl _ _⟩
  case round =>
    obtain ⟨k, d, rfl, hk, hh, hr, hrp, hg⟩ := hrel
    rcases Nat.eq_zero_or_pos k with h0 | h0
    · subst h0
      rw [show ((0 : Nat) : Int) - 1 = -1 from rfl]
      go_wp2
      go_loopw [10] (fun i wr => ∃ (k : Nat) (d : Nat → Int), i = .int .i64 ((k : Int) - 1) ∧ k ≤ b - a ∧ Hid (Heap a 0 k d) ∧ Hid (Tail a k (b - a) d) ∧ Row wr g n d ∧ RP a b d0 d ∧ w.grownBy wr (some g)) (fun i _ => (intOf i + 1).toNat)
      case atStart => exact ⟨b - a, d, by go_num, by omega, hh, (show Tail _ _ _ _ from fun p q h1 h2 h3 => by omega), hr, hrp, hg⟩
      case round =>
        clear hh hr hrp hg
        obtain ⟨k, d, rfl, hk, hh, ht, hr, hrp, hg⟩ := hrel
        rcases Nat.eq_zero_or_pos k with h0 | h0
        · subst h0
          go_wp2
          first | go_end0 | refine bodyPost_ret (results_none rfl _ _ _) rfl ?_
          exact ⟨rfl, d, hr, hrp, by have := ht.out.sorted; rwa [show a + (b - a) = b by omega] at this, hg⟩
        · obtain ⟨j, rfl⟩ : ∃ j, k = j + 1 := ⟨k - 1, by omega⟩
          rw [show ((j + 1 : Nat) : Int) - 1 = (j : Int) by omega]
          have hca : wr.cell? ⟨g, a, none⟩ = some (.int .u64 (d a)) := hr.cell (by omega)
          have hcj : wr.cell? ⟨g, a + j, none⟩ = some (.int .u64 (d (a + j))) := hr.cell (by omega)
          have hfa : wr.frozen? ⟨g, a, none⟩ = false := hr.frozen _
          have hfj : wr.frozen? ⟨g, a + j, none⟩ = false := hr.frozen _
          obtain ⟨v', hy'⟩ := cell?_setCell_some (w := wr) (p := ⟨g, a, none⟩) (x := .int .u64 (d (a + j))) (q := ⟨g, a + j, none⟩) hcj
          have v0 : IntKind.i64.wrap ((a : Int) + (j : Int)) = (a : Int) + (j : Int) := IntWalk.i64_in _ (by omega)
          have hp1 : RP a b d (swp d a (a + j)) := .one _ ⟨by omega, by omega⟩ ⟨by omega, by omega⟩
          have hc := fun (W : World) (hW : Row W g n (swp d a (a + j))) => sift_ok g n c 0 j a (swp d a (a + j)) W hW (by omega) (by omega) hn (Sift.of_heap hh.out.swap)
          rw [show ((0 : Nat) : Int) = 0 from rfl] at hc
          have HT : Hid (Tail a j (b - a) (swp d a (a + j))) := ht.out.swap (by omega) hh.out
          go_wp2_with fail
          go_region
          go_wp2_with (go_at_call 31; ((with_reducible refine (hc _ (Row.swap hr a (a + j)).drew).mono ?_); rintro e w1 ⟨rfl, d1, hr1, hp2, hh1, hg1⟩))
          go_roundw
          case rel => exact ⟨j, d1, by go_num, by omega, hh1, HT.out.turned hp2, hr1, (hrp.trans hp1).trans (hp2.wide (Nat.le_refl _) (by omega)), grown_trans (grown_drew (grown_trans (grown_trans hg (grown_set _ _ _ _)) (grown_set _ _ _ _)) 1) hg1⟩
          case measure => simp [intOf]
    · obtain ⟨j, rfl⟩ : ∃ j, k = j + 1 := ⟨k - 1, by omega⟩
      rw [show ((j + 1 : Nat) : Int) - 1 = (j : Int) by omega]
      have hc := sift_ok g n c j (b - a) a d wr hr (by omega) (by omega) hn (Sift.of_heap hh.out)
      rw [show ((b - a : Nat) : Int) = (b : Int) - (a : Int) by omega, show a + (b - a) = b by omega] at hc
      go_wp2_with (go_at_call 31; ((with_reducible refine hc.mono ?_); rintro e w1 ⟨rfl, d1, hr1, hp1, hh1, hg1⟩))
      go_roundw
      case rel => exact ⟨j, d1, by go_num, by omega, hh1, hr1, hrp.trans hp1, grown_trans hg hg1⟩
      case measure => simp [intOf]
end Go.Proofs.Ytnkpljcfmifinaa.sorts
