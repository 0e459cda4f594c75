/- Like, the document's own: two that are the same are told to be the same, wherever they lie. -/
import Derived.Test.YtgdmhfdlijeogaaRights
import Derived.StillTailTactics
namespace Go.Proofs.Ytgdmhfdlijeogaa.likes
set_option linter.unusedVariables false
set_option linter.unusedSimpArgs false
open Go.RowKit Go.Proofs.Ytgdmhfdlijeogaa.base Go.Proofs.Ytgdmhfdlijeogaa.tm Go.Proofs.Ytgdmhfdlijeogaa.lies Go.Proofs.Ytgdmhfdlijeogaa.rights

theorem Lies.drew {w : World} {t : T} {v : Value} (h : Lies w w.heap.size t v) : Lies w.drew w.drew.heap.size t v := by
  have := Lies.keep (w := w) (w' := w.drew) (fun _ _ => rfl) t v h
  exact this

/-- at the loop's head: behind the two boxes -/
def LHead (W : World) (n : Nat) (i : Value) (wr : World) : Prop :=
  ∃ j : Nat, j ≤ n ∧ i = .int .i64 j ∧ Below W.heap.size W wr

set_option maxRecDepth 100000 in
set_option maxHeartbeats 400000 in
theorem like_any (N : Nat) : ∀ (t : T) (u v : Value) (w : World), t.size ≤ N → Lies w w.heap.size t u → Lies w w.heap.size t v →
    Calls Try.prog 12 #[T.val t u, T.val t v] w fun e w' => e = .returned (.bool true) ∧ Below w.heap.size w w' := by
  induction N with
  | zero => intro t u v w h; have := size_pos t; omega
  | succ N ih =>
    intro t u v w hN hL hM
    obtain ⟨A, c, xs, rfl, hk, hn, hs, hlc, hc, hr, hl⟩ := hL.open_
    obtain ⟨A', c', xs', rfl, _, _, _, hlc', hc', hr', hl'⟩ := hM.open_
    have HS := lay (size_eq t)
    have hb0 : Below w.heap.size w ((w.alloc (.cells #[.int .i64 t.k, .int .u64 t.n, .string t.s, .slice A t.l.length c] 25)).alloc (.cells #[.int .i64 t.k, .int .u64 t.n, .string t.s, .slice A' t.l.length c'] 25)) := ((Below.refl _ _).alloc (Nat.le_refl _) _).alloc (by simp) _
    go_enter Try.func12, Try.ntmps12
    go_wp2_with fail
    go_loopw [37] (fun i wr => LHead ((w.alloc (.cells #[.int .i64 t.k, .int .u64 t.n, .string t.s, .slice A t.l.length c] 25)).alloc (.cells #[.int .i64 t.k, .int .u64 t.n, .string t.s, .slice A' t.l.length c'] 25)) t.l.length i wr) (fun i _ => t.l.length - (intOf i).toNat)
    case atStart => exact ⟨0, Nat.zero_le _, rfl, Below.refl _ _⟩
    case round =>
      obtain ⟨j, hj, rfl, hb⟩ := hrel
      obtain ⟨hcb, hfb⟩ := bcell hb
      have hsz := hb.size
      have hbw := hb0.trans (hb.mono (by simp; omega))
      by_cases hlt : j < t.l.length
      · obtain ⟨b1, off1, A1, c1, rfl, hb1, hv1, x0, x1, x2, x3⟩ := at_cells (hr.below hbw) (hl.below hbw) hlt
        obtain ⟨b2, off2, A2, c2, rfl, hb2, hv2, y0, y1, y2, y3⟩ := at_cells (hr'.below hbw) (hl'.below hbw) hlt
        have hg := size_get t.l j hlt
        have b1c : wr.cell? ⟨w.heap.size, 3, none⟩ = some (.slice (some ⟨b1, off1, none⟩) t.l.length c) := by rw [hcb _ _ (by simp; omega)]; simp
        have b2c : wr.cell? ⟨w.heap.size + 1, 3, none⟩ = some (.slice (some ⟨b2, off2, none⟩) t.l.length c') := by rw [hcb _ _ (by simp)]; simp
        simp at hsz
        clear hcb hfb
        have j0 : (0 : Int) ≤ (j : Int) := by omega
        have j1 : (j : Int) < (t.l.length : Int) := by omega
        go_wp2_with fail
        go_still_tail 10, (by kernel_rfl)
        have hjN : t.l[j].size ≤ N := by have := HS.out; omega
        have hv1' := Lies.drew (hv1.now hbw.size)
        have hv2' := Lies.drew (hv2.now hbw.size)
        go_wp2_with (go_at_call 12; refine (ih t.l[j] _ _ _ hjN hv1' hv2').mono ?_; rintro e w2 ⟨rfl, hbc⟩)
        exact ⟨⟨j + 1, hlt, by go_num, hb.drew.trans (hbc.mono hb.size)⟩, by simp [intOf]; omega⟩
      · go_wp2_with fail
        go_ret
        exact ⟨rfl, hbw⟩
end Go.Proofs.Ytgdmhfdlijeogaa.likes
