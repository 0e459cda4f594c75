/- The document's own Copy. -/
import Derived.Test.YtgdmhfdlijeogaaRefMore
namespace Go.Proofs.Ytgdmhfdlijeogaa.copyT
set_option linter.unusedVariables false
set_option linter.unusedSimpArgs false
open Go.RowKit Go.Proofs.Ytgdmhfdlijeogaa.base Go.Proofs.Ytgdmhfdlijeogaa.tm Go.Proofs.Ytgdmhfdlijeogaa.lies Go.Proofs.Ytgdmhfdlijeogaa.rights Go.Proofs.Ytgdmhfdlijeogaa.copies Go.Proofs.Ytgdmhfdlijeogaa.built Go.Proofs.Ytgdmhfdlijeogaa.refReads

/-- what Copy leaves -/
def CPost (W : World) (t : T) (e : Ending) (w' : World) : Prop :=
  Below W.heap.size W w' ∧ ∃ (A : Option Addr) (c : Nat), e = .returned (T.val t (.slice A t.l.length c)) ∧ Held w' W.heap.size w'.heap.size t.l (.slice A t.l.length c)

/-- at the loop's head -/
def CHead (W : World) (t : T) (i : Value) (wr : World) : Prop :=
  ∃ (j : Nat) (l : List T) (A : Option Addr) (c : Nat), i = .int .i64 j ∧ j ≤ t.l.length ∧ l = t.l.take j ∧ l.length = j ∧ Blk wr (W.heap.size + 1 + 1) 25 #[.int .i64 t.k, .int .u64 t.n, .string t.s, .slice A l.length c] ∧
    Blk wr (W.heap.size + 1) 25 #[.int .i64 0, .int .u64 0, .string ⟨#[]⟩, .slice none 0 0] ∧ Built (W.heap.size + 3) wr l (.slice A l.length c) ∧ Below W.heap.size W wr ∧ W.heap.size + 3 ≤ wr.heap.size

set_option maxRecDepth 100000 in
set_option maxHeartbeats 800000 in
theorem copy_any (N : Nat) : ∀ (t : T) (v : Value) (w : World), t.size ≤ N → Lies w w.heap.size t v → Calls Try.prog 26 #[T.val t v] w (CPost w t) := by
  induction N with
  | zero => intro t v w h; have := size_pos t; omega
  | succ N ih =>
    intro t v w hN hL
    obtain ⟨A, c, xs, rfl, hk, hn, hs, hlc, hc, hr, hl⟩ := hL.open_
    have HS := lay (size_eq t)
    have hN' : sizeL t.l ≤ N := by rw [size_eq] at hN; omega
    clear hN hL
    have hb0 := ((Blk.new w 25 #[.int .i64 t.k, .int .u64 t.n, .string t.s, .slice A t.l.length c]).alloc (.cells #[.int .i64 0, .int .u64 0, .string ⟨#[]⟩, .slice none 0 0] 25)).alloc (.cells #[.int .i64 t.k, .int .u64 t.n, .string t.s, .slice none 0 0] 25)
    have hb1 := (Blk.new (w.alloc (.cells #[.int .i64 t.k, .int .u64 t.n, .string t.s, .slice A t.l.length c] 25)) 25 #[.int .i64 0, .int .u64 0, .string ⟨#[]⟩, .slice none 0 0]).alloc (.cells #[.int .i64 t.k, .int .u64 t.n, .string t.s, .slice none 0 0] 25)
    have hb2 := Blk.new ((w.alloc (.cells #[.int .i64 t.k, .int .u64 t.n, .string t.s, .slice A t.l.length c] 25)).alloc (.cells #[.int .i64 0, .int .u64 0, .string ⟨#[]⟩, .slice none 0 0] 25)) 25 #[.int .i64 t.k, .int .u64 t.n, .string t.s, .slice none 0 0]
    simp only [World.size_alloc] at hb1 hb2
    go_enter Try.func26, Try.ntmps26
    go_wp2_with fail
    go_loopw [17] (fun i wr => CHead w t i wr) (fun i _ => t.l.length - (intOf i).toNat)
    case atStart => exact ⟨0, [], none, 0, rfl, Nat.zero_le _, rfl, rfl, hb2, hb1, Built.nil _ _, (((Below.refl _ _).alloc (Nat.le_refl _) _).alloc (by simp) _).alloc (by simp; omega) _, by simp⟩
    case round =>
      clear hb0 hb1 hb2
      obtain ⟨j, l, A1, c1, rfl, hj, hlj', hll', hk0, hk1, hB, hbw, hzr⟩ := hrel
      have z0 := hk0.cell 0
      have z1 := hk0.cell 1
      have z2 := hk0.cell 2
      have z3 := hk0.cell 3
      simp at z0 z1 z2 z3
      have f3 := hk0.frozen 3
      by_cases hlt : j < t.l.length
      · obtain ⟨b0, off, A', c', rfl, hbl, hv, c0, c1', c2, c3⟩ := at_cells (hr.below hbw) (hl.below hbw) hlt
        obtain ⟨_, _, _, hvv, hk', hn', hs', _⟩ := hv.open_
        have HLJ := lay hlj'
        have HLL := lay hll'
        have hle56 : (l.length + 1) * 56 ≤ 140737488355328 := by omega
        clear hlj' hll'
        have hg := size_get t.l j hlt
        have hv1 := (hv.now (by omega)).later (Nat.le_refl _) (.cells #[.int .i64 t.l[j].k, .int .u64 t.l[j].n, .string t.l[j].s, .slice A' t.l[j].l.length c'] 25)
        have hcall := ih t.l[j] _ _ (by omega) hv1
        go_wp2_with fail
        refine hcall.mono ?_
        rintro e w2 ⟨hG, A2, c2', rfl, hH⟩
        have hown := fun k hk => (hB.own k hk).2
        have hzw2 := hG.size
        simp only [World.size_alloc] at hzw2
        have hk2 := (hk0.alloc (.cells #[.int .i64 t.l[j].k, .int .u64 t.l[j].n, .string t.l[j].s, .slice A' t.l[j].l.length c'] 25)).below hG (by simp; omega)
        have q3 := hk2.cell 3
        simp at q3
        have hbx := (Below.refl wr.heap.size wr).alloc (Nat.le_refl _) (.cells #[.int .i64 t.l[j].k, .int .u64 t.l[j].n, .string t.l[j].s, .slice A' t.l[j].l.length c'] 25)
        have hw2 : w.heap.size + 1 + 1 < w2.heap.size := by omega
        have hG' := hbx.trans (hG.mono (by simp))
        have hB2 := (hB.below hG').below ((Below.refl _ _).alloc (Nat.le_refl _) (.cells #[.int .i64 t.l[j].k, .int .u64 t.l[j].n, .string t.l[j].s, .slice A2 t.l[j].l.length c2'] 25))
        have hH2 := hH.move (Nat.le_refl _) (Nat.le_refl _) (fun p _ p2 => World.cell?_alloc_lt w2 (.cells #[.int .i64 t.l[j].k, .int .u64 t.l[j].n, .string t.l[j].s, .slice A2 t.l[j].l.length c2'] 25) p p2)
        have hk3 := hk2.alloc (.cells #[.int .i64 t.l[j].k, .int .u64 t.l[j].n, .string t.l[j].s, .slice A2 t.l[j].l.length c2'] 25)
        have hk1' := ((hk1.alloc (.cells #[.int .i64 t.l[j].k, .int .u64 t.l[j].n, .string t.l[j].s, .slice A' t.l[j].l.length c'] 25)).below hG (by simp; omega)).alloc (.cells #[.int .i64 t.l[j].k, .int .u64 t.l[j].n, .string t.l[j].s, .slice A2 t.l[j].l.length c2'] 25)
        go_wp2_with (at_builtin; refine wpList_append_term rfl _ _ rfl (t := t.l[j]) rfl hB2 rfl (by simp; omega) hH2 (by simp) (by simp; omega) (fun k hk => by have := hown k hk; simp; omega) hk' hn' hs' rfl (by simp) hle56 ?next)
        case next =>
          intro v3 w3 hB3 hbe3 hz3 hkeep3
          obtain ⟨A3, c3, rfl, hc3⟩ := hB3.form
          have hk4 := Blk.below hk3 hbe3 (by omega)
          have hk5 := Blk.below hk1' hbe3 (by omega)
          clear hkeep3 q3 z0 z1 z2 z3
          have f3' := hk4.frozen 3
          have hzz := hk4.lt
          have q3 := hk4.cell 3
          simp at q3
          go_wp2_with fail
          have hBw3 := (hbw.trans ((hG'.mono hbw.size))).alloc (by have := hbw.size; omega) (.cells #[.int .i64 t.l[j].k, .int .u64 t.l[j].n, .string t.l[j].s, .slice A2 t.l[j].l.length c2'] 25)
          have hBw4 := hBw3.trans (hbe3.mono (Nat.le_add_right _ 3))
          have hbox := hk4.put 3 (.slice A3 (l ++ [t.l[j]]).length c3)
          have hlen1 : (l ++ [t.l[j]]).length = j + 1 := by have := HLL.out; simp [this]
          have htk : t.l.take (j + 1) = l ++ [t.l[j]] := by rw [List.take_succ_eq_append_getElem hlt, ← HLJ.out]
          refine ⟨⟨j + 1, l ++ [t.l[j]], A3, c3, by go_num, hlt, htk.symm, hlen1, ?_, ?_, ?_, ?_, ?_⟩, by simp [intOf]; omega⟩
          · simpa using hbox
          · exact hk5.far (p := ⟨w.heap.size + 1 + 1, 3, none⟩) (by show w.heap.size + 1 ≠ w.heap.size + 1 + 1; omega) _
          · exact hB3.kept (grown_set _ (w.heap.size + 1 + 1) 3 _) (fun g e => by injection e with e; omega)
          · exact hBw4.setCell (p := ⟨w.heap.size + 1 + 1, 3, none⟩) (by show w.heap.size ≤ w.heap.size + 1 + 1; omega) _
          · have := hk5.lt; simp only [World.size_setCell]; omega
      · have hlt' : j = t.l.length := by omega
        subst hlt'
        have hlt2 : l = t.l := by rw [hlj', List.take_length]
        clear hlj' hll'
        subst hlt2
        have hHl := hB.held (by omega)
        have q0 := hk1.cell 0
        have q1 := hk1.cell 1
        have q2 := hk1.cell 2
        have q3 := hk1.cell 3
        simp at q0 q1 q2 q3
        have g0 := hk1.frozen 0
        have g1 := hk1.frozen 1
        have g2 := hk1.frozen 2
        have g3 := hk1.frozen 3
        have hw1 : w.heap.size + 1 < wr.heap.size := by omega
        go_wp2_with fail
        refine bodyPost_ret (v := .agg #[.int .i64 t.k, .int .u64 t.n, .string t.s, .slice A1 t.l.length c1]) (by simp [results, Try.results26, go_sem, hw1, q0, q1, q2, q3]) rfl ⟨?_, A1, c1, rfl, ?_⟩
        · exact four_below hbw (o := 0) (g := w.heap.size + 1) (by omega) _ _ _ _
        · exact hHl.move (by omega) (by rw [show ∀ a b c d : Value, ((((wr.setCell ⟨w.heap.size + 1, 0, none⟩ a).setCell ⟨w.heap.size + 1, 1, none⟩ b).setCell ⟨w.heap.size + 1, 2, none⟩ c).setCell ⟨w.heap.size + 1, 3, none⟩ d).heap.size = wr.heap.size from fun a b c d => by simp only [World.size_setCell]]; exact Nat.le_refl _) fun p p1 p2 => four_cell wr (w.heap.size + 1) 0 _ _ _ _ p (by omega)
end Go.Proofs.Ytgdmhfdlijeogaa.copyT
