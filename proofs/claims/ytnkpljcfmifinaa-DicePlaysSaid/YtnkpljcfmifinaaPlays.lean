/- The walk of the law DicePlays: it answers true and writes nothing that was there. -/
import Derived.Test.YtnkpljcfmifinaaDice
namespace Go.Proofs.Ytnkpljcfmifinaa.plays
open Go.RowKit Go.Proofs.Ytnkpljcfmifinaa.base Go.Proofs.Ytnkpljcfmifinaa.dice

/-- what the loop's head knows: dice d in world wr, k of them taken, at step j -/
def Head (W : World) (zs : List Int) (d t i : Value) (wr : World) : Prop :=
  ∃ gd gl k j, d = .pointer (some ⟨gd, 0, none⟩) ∧ t = .int .i64 (k : Nat) ∧ i = .int .i64 (j : Nat) ∧ k ≤ j ∧ j ≤ 2000 ∧ IsDice wr W.heap.size gd gl zs k ∧ Below W.heap.size W wr

set_option maxRecDepth 100000 in
theorem plays_any (A0 : Option Addr) (len0 cap0 : Nat) (z0 : List Int) (A1 : Option Addr) (len1 cap1 : Nat) (z1 : List Int) (w : World)
    (h0 : Rd w w.heap.size A0 (z0.map (Value.int .u64))) (l0 : z0.length = len0) (c0 : len0 ≤ cap0)
    (h1 : Rd w w.heap.size A1 (z1.map (Value.int .i64))) (l1 : z1.length = len1) :
    Calls Try.prog 3 #[.slice A0 len0 cap0, .slice A1 len1 cap1] w fun e w' => e = .returned (.bool true) ∧ Below w.heap.size w w' := by
  have hs := short_ok A0 len0 cap0 2000 w.heap.size (z0.map (Value.int .u64)) w h0 (by simpa using l0) c0
  obtain ⟨zs, hzs⟩ : ∃ zs, zs = z0.take 2000 := ⟨_, rfl⟩
  have hlen : min len0 2000 = zs.length := by rw [hzs, List.length_take]; omega
  rw [hlen] at hs
  have hr := h0.take 2000
  rw [← List.map_take, ← hzs] at hr
  have hz : zs.length ≤ 2000 := by omega
  clear hlen hzs h0 c0
  go_enter Try.func3, Try.ntmps3
  go_wp2_with (first
    | (go_at_call 8; refine hs.mono ?_; rintro e w' ⟨rfl, rfl⟩)
    | (go_at_call 9; refine (new_ok A0 cap0 zs w hr (by omega)).mono ?_; rintro e w1 ⟨gd, gl, rfl, hd, hbel⟩))
  go_loopw [6, 8, 9] (fun d t i wr => Head w zs d t i wr) (fun _ _ i _ => 2000 - (intOf i).toNat)
  case atStart => exact ⟨gd, gl, 0, 0, rfl, rfl, rfl, Nat.le_refl _, by omega, hd, hbel⟩
  case round =>
    obtain ⟨gd, gl, k, j, rfl, rfl, rfl, hkj, hj, hd, hb⟩ := hrel
    have hgd : gd < wr.heap.size := hd.self.lt
    have hgl : gl < wr.heap.size := hd.list.lt
    have hlr := hr.below hb
    have hsz := hb.size
    have hlow := hd.low
    by_cases hin : j < len1 ∧ j < 2000
    · obtain ⟨hj1, hj2⟩ := hin
      obtain ⟨b1, off1, rfl, hb1, hcell⟩ := h1.at_ (k := j) (by simpa [l1] using hj1)
      obtain ⟨s, hs1⟩ : ∃ s, wr.cell? ⟨b1, off1 + j, none⟩ = some (.int .i64 s) := ⟨_, (hb.cell (p := ⟨b1, off1 + j, none⟩) hb1).trans (by rw [hcell, List.getElem_map])⟩
      clear hcell
      have hnext := hd.next
      by_cases hone : s = 1
      · subst hone
        go_wp2_with (first
          | (go_at_call 10; ((with_reducible refine (taken_ok _ _ _ _ _ _ hd).mono ?_); rintro e w2 ⟨rfl, rfl⟩))
          | (go_at_call 11; ((with_reducible refine (copy_ok _ _ _ _ _ _ hd (by omega)).mono ?_); rintro e w2 ⟨gd', gl', rfl, hd', hb'⟩; have hk2 := hd.keep (hb'.block gd hgd) (hb'.block gl hgl)))
          | (go_at_call 10; ((with_reducible refine (taken_ok _ _ _ _ _ _ hd').mono ?_); rintro e w3 ⟨rfl, rfl⟩))
          | (go_at_call 12; ((with_reducible refine (next_ok _ _ _ _ _ _ hk2 (by omega)).mono ?_); rintro e w3 ⟨rfl, rfl⟩))
          | (go_at_call 13; refine (draw_ok _ _ w.heap.size _ _ _ ?_ (by omega)).mono ?_; rotate_left; rintro e w3 ⟨rfl, rfl⟩))
        · go_roundw
          case rel =>
            have hl := hd'.low
            have hll := hd'.lowl
            exact ⟨gd', gl', k, j + 1, rfl, rfl, by go_num, by omega, by omega, (hd'.keep (Below.heap_setCell _ _ _ _ (by simp; omega)) (Below.heap_setCell _ _ _ _ (by simp; omega))).mono (by omega), (hb.trans (hb'.mono hsz)).setCell hlow _⟩
          case measure => simp [intOf]; omega
        · exact hr.below ((hb.trans (hb'.mono hsz)).setCell hlow _)
      · go_wp2_with (first
          | (go_at_call 10; ((with_reducible refine (taken_ok _ _ _ _ _ _ hd).mono ?_); rintro e w2 ⟨rfl, rfl⟩))
          | (go_at_call 12; ((with_reducible refine (next_ok _ _ _ _ _ _ hd (by omega)).mono ?_); rintro e w3 ⟨rfl, rfl⟩))
          | (go_at_call 13; refine (draw_ok _ _ w.heap.size _ _ _ ?_ (by omega)).mono ?_; rotate_left; rintro e w3 ⟨rfl, rfl⟩))
        · go_roundw
          case rel => exact ⟨gd, gl, k + 1, j + 1, rfl, by go_num, by go_num, by omega, by omega, hnext, hb.setCell hlow _⟩
          case measure => simp [intOf]; omega
        · exact hr.below (hb.setCell hlow _)
    · by_cases hj1 : j < len1
      all_goals go_wp2_with (first
          | (go_at_call 10; ((with_reducible refine (taken_ok _ _ _ _ _ _ hd).mono ?_); rintro e w2 ⟨rfl, rfl⟩))
          | (go_at_call 12; ((with_reducible refine (next_ok _ _ _ _ _ _ hd (by omega)).mono ?_); rintro e w3 ⟨rfl, rfl⟩))
          | (go_at_call 13; refine (draw_ok _ _ w.heap.size _ _ _ ?_ (by omega)).mono ?_; rotate_left; rintro e w3 ⟨rfl, rfl⟩))
      all_goals first
        | (go_ret; exact ⟨rfl, hb.setCell hlow _⟩)
        | exact hr.below (hb.setCell hlow _)
end Go.Proofs.Ytnkpljcfmifinaa.plays
