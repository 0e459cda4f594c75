/- The document's own Box, Seal, Open. -/
import Derived.Test.YtgdmhfdlijeogaaBoxC
namespace Go.Proofs.Ytgdmhfdlijeogaa.boxes
set_option linter.unusedVariables false
set_option linter.unusedSimpArgs false
open Go.RowKit Go.Proofs.Ytgdmhfdlijeogaa.base Go.Proofs.Ytgdmhfdlijeogaa.tm Go.Proofs.Ytgdmhfdlijeogaa.lies Go.Proofs.Ytgdmhfdlijeogaa.rights Go.Proofs.Ytgdmhfdlijeogaa.encs Go.Proofs.Ytgdmhfdlijeogaa.copies Go.Proofs.Ytgdmhfdlijeogaa.makes Go.Proofs.Ytgdmhfdlijeogaa.reads Go.Proofs.Ytgdmhfdlijeogaa.copyT

set_option maxRecDepth 100000 in
set_option maxHeartbeats 400000 in
theorem refBox_any (k : Int) (t : T) (v : Value) (w : World) (hL : Lies w w.heap.size t v) :
    Calls Try.prog 24 #[.int .u64 k, T.val t v] w fun e w' => ∃ (A : Option Addr) (c : Nat), e = .returned (.agg #[.int .i64 4, .int .u64 k, .string ⟨#[]⟩, .slice A 1 c]) ∧ Held w' w.heap.size w'.heap.size [t] (.slice A 1 c) ∧ Below w.heap.size w w' := by
  obtain ⟨A, c, xs, rfl, hk, hn, hs, hlc, hc, hr, hl⟩ := hL.open_
  have hL2 := (hL.later (Nat.le_refl _) (.cells #[.int .i64 t.k, .int .u64 t.n, .string t.s, .slice A t.l.length c] 25)).later (Nat.le_refl _) (.cells #[.int .i64 0, .int .u64 0, .string ⟨#[]⟩, .slice none 0 0] 25)
  have h1 := copy_any t.size t _ _ (Nat.le_refl _) hL2
  unfold CPost at h1
  simp only [World.size_alloc] at h1
  go_enter Try.func24, Try.ntmps24
  go_wp2_with fail
  refine h1.mono ?_
  rintro e w1 ⟨hb1, A1, c1, rfl, hh⟩
  have hz1 := hb1.size
  simp only [World.size_alloc] at hz1
  have hB := (Blk.new (w.alloc (.cells #[.int .i64 t.k, .int .u64 t.n, .string t.s, .slice A t.l.length c] 25)) 25 #[.int .i64 0, .int .u64 0, .string ⟨#[]⟩, .slice none 0 0]).below hb1 (by simp)
  simp only [World.size_alloc] at hB
  have z0 := hB.cell 0
  have z1 := hB.cell 1
  have z2 := hB.cell 2
  have z3 := hB.cell 3
  simp at z0 z1 z2 z3
  have f0 := hB.frozen 0
  have f1 := hB.frozen 1
  have f2 := hB.frozen 2
  have f3 := hB.frozen 3
  have hw1 : w.heap.size + 1 < w1.heap.size := by omega
  go_wp2_with fail
  have hh4 : Held (four w1 (w.heap.size + 1) 0 (.int .i64 4) (.int .u64 k) (.string ⟨#[]⟩) (.slice (some ⟨w1.heap.size, 0, none⟩) 1 1)) (w.heap.size + 1 + 1) (four w1 (w.heap.size + 1) 0 (.int .i64 4) (.int .u64 k) (.string ⟨#[]⟩) (.slice (some ⟨w1.heap.size, 0, none⟩) 1 1)).heap.size t.l (.slice A1 t.l.length c1) :=
    hh.move (Nat.le_refl _) (by rw [four_size]; exact Nat.le_refl _) fun p p1 p2 => four_cell w1 (w.heap.size + 1) 0 _ _ _ _ p (by omega)
  have hone := held_one hh4 hL.fits (by rw [four_size]; omega)
  rw [four_size] at hone
  have hbe := four_below (o := 0) (below2 hb1) (show w.heap.size ≤ w.heap.size + 1 by omega) (.int .i64 4) (.int .u64 k) (.string ⟨#[]⟩) (.slice (some ⟨w1.heap.size, 0, none⟩) 1 1)
  refine bodyPost_ret (v := .agg #[.int .i64 4, .int .u64 k, .string ⟨#[]⟩, .slice (some ⟨w1.heap.size, 0, none⟩) 1 1]) (by simp [results, Try.results24, go_sem, z0, z1, z2, z3, hw1]) rfl ⟨_, 1, rfl, ?_, ?_⟩
  · exact hone.move (by omega) (Nat.le_refl _) fun _ _ _ => rfl
  · exact hbe.alloc (by rw [four_size]; omega) _

set_option maxRecDepth 100000 in
set_option maxHeartbeats 400000 in
theorem refSeal_bad (k : Int) (t : T) (v : Value) (w : World) (hL : Lies w w.heap.size t v) (hR : t.right ≠ 0) :
    Calls Try.prog 9 #[.int .u64 k, T.val t v] w (Ans w (zT, t.right)) := by
  obtain ⟨A, c, xs, rfl, hk, hn, hs, hlc, hc, hr, hl⟩ := hL.open_
  have hL2 := (hL.later (Nat.le_refl _) (.cells #[.int .i64 t.k, .int .u64 t.n, .string t.s, .slice A t.l.length c] 25)).later (Nat.le_refl _) (.cells #[.int .i64 0, .int .u64 0, .string ⟨#[]⟩, .slice none 0 0] 25)
  have d1 : (t.right != 0) = true := by simpa using hR
  have h1 := refRight_any t _ _ hL2
  simp only [World.size_alloc] at h1
  clear hR
  go_enter Try.func9, Try.ntmps9
  go_wp2_with fail
  refine h1.mono ?_
  rintro e w1 ⟨rfl, hb1⟩
  have hz1 := hb1.size
  simp only [World.size_alloc] at hz1
  have hL3 := Lies.now (hL2.below (hb1.mono (by simp))) (by simp; omega)
  have h2 := refRight_any t _ _ hL3
  have hB := (Blk.new (w.alloc (.cells #[.int .i64 t.k, .int .u64 t.n, .string t.s, .slice A t.l.length c] 25)) 25 #[.int .i64 0, .int .u64 0, .string ⟨#[]⟩, .slice none 0 0]).below hb1 (by simp)
  have hC := ((Blk.new w 25 #[.int .i64 t.k, .int .u64 t.n, .string t.s, .slice A t.l.length c]).alloc (.cells #[.int .i64 0, .int .u64 0, .string ⟨#[]⟩, .slice none 0 0] 25)).below hb1 (by omega)
  simp only [World.size_alloc] at hB
  have y0 := hC.cell 0
  have y1 := hC.cell 1
  have y2 := hC.cell 2
  have y3 := hC.cell 3
  simp at y0 y1 y2 y3
  go_wp2_with fail
  refine h2.mono ?_
  rintro e w2 ⟨rfl, hb2⟩
  have hz2 := hb2.size
  have hB2 := hB.below hb2 (by omega)
  have z0 := hB2.cell 0
  have z1 := hB2.cell 1
  have z2 := hB2.cell 2
  have z3 := hB2.cell 3
  simp at z0 z1 z2 z3
  have f0 := hB2.frozen 0
  have f1 := hB2.frozen 1
  have f2 := hB2.frozen 2
  have f3 := hB2.frozen 3
  have hw2 : w.heap.size + 1 < w2.heap.size := by omega
  go_wp2_with fail
  refine bodyPost_ret (v := .tuple #[T.val zT (.slice none 0 0), .int .i64 t.right]) (by simp [results, Try.results9, go_sem, z0, z1, z2, z3, hw2, show zT.k = 0 from rfl, show zT.n = 0 from rfl, show zT.s = ⟨#[]⟩ from rfl]) rfl ⟨?_, none, 0, rfl, Held.nil _ _ _, fits_z⟩
  exact four_below (o := 0) ((below2 hb1).trans (hb2.mono (by omega))) (by omega) _ _ _ _

theorem refRight_box (k : Int) (t : T) (v : Value) (w : World) (hL : Lies w w.heap.size (boxT k t) v) :
    Calls Try.prog 23 #[.agg #[.int .i64 4, .int .u64 k, .string ⟨#[]⟩, v]] w fun e w' => e = .returned (.int .i64 (boxT k t).right) ∧ Below w.heap.size w w' := refRight_any _ _ _ hL

set_option maxRecDepth 100000 in
set_option maxHeartbeats 400000 in
theorem refSeal_more (k : Int) (t : T) (v : Value) (w : World) (hkk : 0 ≤ k ∧ k < 18446744073709551616) (hL : Lies w w.heap.size t v) (hR : t.right = 0) (hS : (boxT k t).right ≠ 0) :
    Calls Try.prog 9 #[.int .u64 k, T.val t v] w (Ans w (zT, (boxT k t).right)) := by
  obtain ⟨A, c, xs, rfl, hk, hn, hs, hlc, hc, hr, hl⟩ := hL.open_
  have hL2 := (hL.later (Nat.le_refl _) (.cells #[.int .i64 t.k, .int .u64 t.n, .string t.s, .slice A t.l.length c] 25)).later (Nat.le_refl _) (.cells #[.int .i64 0, .int .u64 0, .string ⟨#[]⟩, .slice none 0 0] 25)
  have d1 : ((boxT k t).right != 0) = true := by simpa using hS
  have h1 := refRight_any t _ _ hL2
  rw [hR] at h1
  simp only [World.size_alloc] at h1
  clear hR hS
  go_enter Try.func9, Try.ntmps9
  go_wp2_with fail
  refine h1.mono ?_
  rintro e w1 ⟨rfl, hb1⟩
  have hz1 := hb1.size
  simp only [World.size_alloc] at hz1
  have hL3 := Lies.now (hL2.below (hb1.mono (by simp))) (by simp; omega)
  have hB := (Blk.new (w.alloc (.cells #[.int .i64 t.k, .int .u64 t.n, .string t.s, .slice A t.l.length c] 25)) 25 #[.int .i64 0, .int .u64 0, .string ⟨#[]⟩, .slice none 0 0]).below hb1 (by simp)
  have hC := ((Blk.new w 25 #[.int .i64 t.k, .int .u64 t.n, .string t.s, .slice A t.l.length c]).alloc (.cells #[.int .i64 0, .int .u64 0, .string ⟨#[]⟩, .slice none 0 0] 25)).below hb1 (by omega)
  simp only [World.size_alloc] at hB
  have y0 := hC.cell 0
  have y1 := hC.cell 1
  have y2 := hC.cell 2
  have y3 := hC.cell 3
  simp at y0 y1 y2 y3
  have h2 := refBox_any k t _ _ hL3
  go_wp2_with fail
  refine h2.mono ?_
  rintro e w2 ⟨A1, c1, rfl, hh, hb2⟩
  have hz2 := hb2.size
  have h3 := refRight_box k t _ _ (held_box hkk hh)
  simp only [World.size_alloc] at h3
  go_wp2_with fail
  refine h3.mono ?_
  rintro e w3 ⟨rfl, hb3⟩
  have hz3 := hb3.size
  simp only [World.size_alloc] at hz3
  have hX3 := (Blk.new w2 25 #[.int .i64 4, .int .u64 k, .string ⟨#[]⟩, .slice A1 1 c1]).below hb3 (by omega)
  have x0 := hX3.cell 0
  have x1 := hX3.cell 1
  have x2 := hX3.cell 2
  have x3 := hX3.cell 3
  simp at x0 x1 x2 x3
  have hL4 := Lies.now ((held_box hkk hh).below (hb3.mono (by simp))) (by simp; omega)
  have h4 := refRight_box k t _ _ hL4
  go_wp2_with fail
  refine h4.mono ?_
  rintro e w4 ⟨rfl, hb4⟩
  have hz4 := hb4.size
  have hB4 := (((hB.below hb2 (by omega)).alloc (.cells #[.int .i64 4, .int .u64 k, .string ⟨#[]⟩, .slice A1 1 c1] 25)).below hb3 (by omega)).below hb4 (by omega)
  have z0 := hB4.cell 0
  have z1 := hB4.cell 1
  have z2 := hB4.cell 2
  have z3 := hB4.cell 3
  simp at z0 z1 z2 z3
  have f0 := hB4.frozen 0
  have f1 := hB4.frozen 1
  have f2 := hB4.frozen 2
  have f3 := hB4.frozen 3
  have hw4 : w.heap.size + 1 < w4.heap.size := by omega
  have hBel : Below w.heap.size w w4 := (below2 hb1).trans ((hb2.mono (by omega)).trans ((((Below.refl _ _).alloc (by omega) _).trans (hb3.mono (by omega))).trans (hb4.mono (by omega))))
  go_wp2_with fail
  refine bodyPost_ret (v := .tuple #[T.val zT (.slice none 0 0), .int .i64 (boxT k t).right]) (by simp [results, Try.results9, go_sem, z0, z1, z2, z3, hw4, show zT.k = 0 from rfl, show zT.n = 0 from rfl, show zT.s = ⟨#[]⟩ from rfl]) rfl ⟨?_, none, 0, rfl, Held.nil _ _ _, fits_z⟩
  exact four_below (o := 0) hBel (by omega) _ _ _ _

set_option maxRecDepth 100000 in
set_option maxHeartbeats 400000 in
theorem refSeal_ok (k : Int) (t : T) (v : Value) (w : World) (hkk : 0 ≤ k ∧ k < 18446744073709551616) (hL : Lies w w.heap.size t v) (hR : t.right = 0) (hS : (boxT k t).right = 0) :
    Calls Try.prog 9 #[.int .u64 k, T.val t v] w (Ans w (boxT k t, 0)) := by
  obtain ⟨A, c, xs, rfl, hk, hn, hs, hlc, hc, hr, hl⟩ := hL.open_
  have hL2 := (hL.later (Nat.le_refl _) (.cells #[.int .i64 t.k, .int .u64 t.n, .string t.s, .slice A t.l.length c] 25)).later (Nat.le_refl _) (.cells #[.int .i64 0, .int .u64 0, .string ⟨#[]⟩, .slice none 0 0] 25)
  have h1 := refRight_any t _ _ hL2
  rw [hR] at h1
  simp only [World.size_alloc] at h1
  clear hR
  go_enter Try.func9, Try.ntmps9
  go_wp2_with fail
  refine h1.mono ?_
  rintro e w1 ⟨rfl, hb1⟩
  have hz1 := hb1.size
  simp only [World.size_alloc] at hz1
  have hL3 := Lies.now (hL2.below (hb1.mono (by simp))) (by simp; omega)
  have hB := (Blk.new (w.alloc (.cells #[.int .i64 t.k, .int .u64 t.n, .string t.s, .slice A t.l.length c] 25)) 25 #[.int .i64 0, .int .u64 0, .string ⟨#[]⟩, .slice none 0 0]).below hb1 (by simp)
  have hC := ((Blk.new w 25 #[.int .i64 t.k, .int .u64 t.n, .string t.s, .slice A t.l.length c]).alloc (.cells #[.int .i64 0, .int .u64 0, .string ⟨#[]⟩, .slice none 0 0] 25)).below hb1 (by omega)
  simp only [World.size_alloc] at hB
  have y0 := hC.cell 0
  have y1 := hC.cell 1
  have y2 := hC.cell 2
  have y3 := hC.cell 3
  simp at y0 y1 y2 y3
  have h2 := refBox_any k t _ _ hL3
  go_wp2_with fail
  refine h2.mono ?_
  rintro e w2 ⟨A1, c1, rfl, hh, hb2⟩
  have hz2 := hb2.size
  have h3 := refRight_box k t _ _ (held_box hkk hh)
  rw [hS] at h3
  simp only [World.size_alloc] at h3
  clear hS
  go_wp2_with fail
  refine h3.mono ?_
  rintro e w3 ⟨rfl, hb3⟩
  have hz3 := hb3.size
  simp only [World.size_alloc] at hz3
  have hX3 := (Blk.new w2 25 #[.int .i64 4, .int .u64 k, .string ⟨#[]⟩, .slice A1 1 c1]).below hb3 (by omega)
  have hB3 := ((hB.below hb2 (by omega)).alloc (.cells #[.int .i64 4, .int .u64 k, .string ⟨#[]⟩, .slice A1 1 c1] 25)).below hb3 (by omega)
  have x0 := hX3.cell 0
  have x1 := hX3.cell 1
  have x2 := hX3.cell 2
  have x3 := hX3.cell 3
  have z0 := hB3.cell 0
  have z1 := hB3.cell 1
  have z2 := hB3.cell 2
  have z3 := hB3.cell 3
  simp at z0 z1 z2 z3 x0 x1 x2 x3
  have f0 := hB3.frozen 0
  have f1 := hB3.frozen 1
  have f2 := hB3.frozen 2
  have f3 := hB3.frozen 3
  have hw3 : w.heap.size + 1 < w3.heap.size := by omega
  have hBel : Below w.heap.size w w3 := (below2 hb1).trans ((hb2.mono (by omega)).trans (((Below.refl _ _).alloc (by omega) _).trans (hb3.mono (by omega))))
  have hH3 : Held w3 w1.heap.size w2.heap.size [t] (.slice A1 1 c1) := hh.move (Nat.le_refl _) (Nat.le_refl _) fun p _ p2 => by rw [hb3.cell (by omega), World.cell?_alloc_lt _ _ _ p2]
  go_wp2_with fail
  refine bodyPost_ret (v := .tuple #[T.val (boxT k t) (.slice A1 1 c1), .int .i64 0]) (by simp [results, Try.results9, go_sem, z0, z1, z2, z3, hw3, show (boxT k t).k = 4 from rfl, show (boxT k t).n = k from rfl, show (boxT k t).s = ⟨#[]⟩ from rfl]) rfl ⟨?_, A1, c1, rfl, ?_, fits_box hkk⟩
  · exact four_below (o := 0) hBel (by omega) _ _ _ _
  · exact Held.move (l := [t]) hH3 (by omega) (by simp; omega) fun p p1 p2 => four_cell w3 (w.heap.size + 1) 0 _ _ _ _ p (by omega)

theorem refSeal_any (k : Int) (t : T) (v : Value) (w : World) (hkk : 0 ≤ k ∧ k < 18446744073709551616) (hL : Lies w w.heap.size t v) :
    Calls Try.prog 9 #[.int .u64 k, T.val t v] w (Ans w (sealT k t)) := by
  unfold sealT
  by_cases h1 : t.right = 0
  · rw [if_neg (by simpa using h1)]
    by_cases h2 : (boxT k t).right = 0
    · rw [if_neg (by simpa using h2)]; exact refSeal_ok k t v w hkk hL h1 h2
    · rw [if_pos h2]; exact refSeal_more k t v w hkk hL h1 h2
  · rw [if_pos h1]; exact refSeal_bad k t v w hL h1
end Go.Proofs.Ytgdmhfdlijeogaa.boxes
