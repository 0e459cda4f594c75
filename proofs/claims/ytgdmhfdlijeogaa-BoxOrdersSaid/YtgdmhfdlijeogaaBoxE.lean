/- The document's own Open. -/
import Derived.Test.YtgdmhfdlijeogaaBoxD
namespace Go.Proofs.Ytgdmhfdlijeogaa.boxes
set_option linter.unusedVariables false
set_option linter.unusedSimpArgs false
open Go.RowKit Go.Proofs.Ytgdmhfdlijeogaa.base Go.Proofs.Ytgdmhfdlijeogaa.tm Go.Proofs.Ytgdmhfdlijeogaa.lies Go.Proofs.Ytgdmhfdlijeogaa.rights Go.Proofs.Ytgdmhfdlijeogaa.encs Go.Proofs.Ytgdmhfdlijeogaa.copies Go.Proofs.Ytgdmhfdlijeogaa.makes Go.Proofs.Ytgdmhfdlijeogaa.reads Go.Proofs.Ytgdmhfdlijeogaa.copyT

set_option maxRecDepth 100000 in
set_option maxHeartbeats 400000 in
theorem refOpen_bad (k : Int) (t : T) (v : Value) (w : World) (hL : Lies w w.heap.size t v) (hR : t.right ≠ 0) :
    Calls Try.prog 11 #[.int .u64 k, T.val t v] w (Ans w (zT, t.right)) := by
  obtain ⟨A, c, xs, rfl, hk, hn, hs, hlc, hc, hr, hl⟩ := hL.open_
  have hL2 := (hL.later (Nat.le_refl _) (.cells #[.int .i64 t.k, .int .u64 t.n, .string t.s, .slice A t.l.length c] 25)).later (Nat.le_refl _) (.cells #[.int .i64 0, .int .u64 0, .string ⟨#[]⟩, .slice none 0 0] 25)
  have d1 : (t.right != 0) = true := by simpa using hR
  have h1 := refRight_any t _ _ hL2
  simp only [World.size_alloc] at h1
  clear hR
  go_enter Try.func11, Try.ntmps11
  go_wp2_with fail
  refine h1.mono ?_
  rintro e w1 ⟨rfl, hb1⟩
  have hz1 := hb1.size
  simp only [World.size_alloc] at hz1
  have hL3 := Lies.now (hL2.below (hb1.mono (by simp))) (by simp; omega)
  have h2 := refRight_any t _ _ hL3
  have hB := (Blk.new (w.alloc (.cells #[.int .i64 t.k, .int .u64 t.n, .string t.s, .slice A t.l.length c] 25)) 25 #[.int .i64 0, .int .u64 0, .string ⟨#[]⟩, .slice none 0 0]).below hb1 (by simp)
  have hC := ((Blk.new w 25 #[.int .i64 t.k, .int .u64 t.n, .string t.s, .slice A t.l.length c]).alloc (.cells #[.int .i64 0, .int .u64 0, .string ⟨#[]⟩, .slice none 0 0] 25)).below hb1 (by omega)
  simp only [World.size_alloc] at hB
  have y0 := hC.cell 0
  have y1 := hC.cell 1
  have y2 := hC.cell 2
  have y3 := hC.cell 3
  simp at y0 y1 y2 y3
  go_wp2_with fail
  refine h2.mono ?_
  rintro e w2 ⟨rfl, hb2⟩
  have hz2 := hb2.size
  have hB2 := hB.below hb2 (by omega)
  have z0 := hB2.cell 0
  have z1 := hB2.cell 1
  have z2 := hB2.cell 2
  have z3 := hB2.cell 3
  simp at z0 z1 z2 z3
  have f0 := hB2.frozen 0
  have f1 := hB2.frozen 1
  have f2 := hB2.frozen 2
  have f3 := hB2.frozen 3
  have hw2 : w.heap.size + 1 < w2.heap.size := by omega
  go_wp2_with fail
  refine bodyPost_ret (v := .tuple #[T.val zT (.slice none 0 0), .int .i64 t.right]) (by simp [results, Try.results11, go_sem, z0, z1, z2, z3, hw2, show zT.k = 0 from rfl, show zT.n = 0 from rfl, show zT.s = ⟨#[]⟩ from rfl]) rfl ⟨?_, none, 0, rfl, Held.nil _ _ _, fits_z⟩
  exact four_below (o := 0) ((below2 hb1).trans (hb2.mono (by omega))) (by omega) _ _ _ _

set_option maxRecDepth 100000 in
set_option maxHeartbeats 400000 in
theorem refOpen_kind (k : Int) (t : T) (v : Value) (w : World) (hL : Lies w w.heap.size t v) (hR : t.right = 0) (hK : t.k ≠ 4) :
    Calls Try.prog 11 #[.int .u64 k, T.val t v] w (Ans w (zT, 30)) := by
  obtain ⟨A, c, xs, rfl, hk, hn, hs, hlc, hc, hr, hl⟩ := hL.open_
  have hL2 := (hL.later (Nat.le_refl _) (.cells #[.int .i64 t.k, .int .u64 t.n, .string t.s, .slice A t.l.length c] 25)).later (Nat.le_refl _) (.cells #[.int .i64 0, .int .u64 0, .string ⟨#[]⟩, .slice none 0 0] 25)
  have d1 : (t.k != 4) = true := by simpa using hK
  have h1 := refRight_any t _ _ hL2
  rw [hR] at h1
  simp only [World.size_alloc] at h1
  clear hR hK
  go_enter Try.func11, Try.ntmps11
  go_wp2_with fail
  refine h1.mono ?_
  rintro e w1 ⟨rfl, hb1⟩
  have hB := (Blk.new (w.alloc (.cells #[.int .i64 t.k, .int .u64 t.n, .string t.s, .slice A t.l.length c] 25)) 25 #[.int .i64 0, .int .u64 0, .string ⟨#[]⟩, .slice none 0 0]).below hb1 (by simp)
  have hC := ((Blk.new w 25 #[.int .i64 t.k, .int .u64 t.n, .string t.s, .slice A t.l.length c]).alloc (.cells #[.int .i64 0, .int .u64 0, .string ⟨#[]⟩, .slice none 0 0] 25)).below hb1 (by omega)
  simp only [World.size_alloc] at hB
  have z0 := hB.cell 0
  have z1 := hB.cell 1
  have z2 := hB.cell 2
  have z3 := hB.cell 3
  have y0 := hC.cell 0
  simp at z0 z1 z2 z3 y0
  have f0 := hB.frozen 0
  have f1 := hB.frozen 1
  have f2 := hB.frozen 2
  have f3 := hB.frozen 3
  go_wp2_with fail
  refine bodyPost_ret (v := .tuple #[T.val zT (.slice none 0 0), .int .i64 30]) (by simp [results, Try.results11, go_sem, z0, z1, z2, z3, show zT.k = 0 from rfl, show zT.n = 0 from rfl, show zT.s = ⟨#[]⟩ from rfl]) rfl ⟨?_, none, 0, rfl, Held.nil _ _ _, fits_z⟩
  exact four_below (o := 0) (below2 hb1) (by omega) _ _ _ _

set_option maxRecDepth 100000 in
set_option maxHeartbeats 400000 in
theorem refOpen_key (k : Int) (t : T) (v : Value) (w : World) (hL : Lies w w.heap.size t v) (hR : t.right = 0) (hK : t.k = 4) (hN : t.n ≠ k) :
    Calls Try.prog 11 #[.int .u64 k, T.val t v] w (Ans w (zT, 31)) := by
  obtain ⟨A, c, xs, rfl, hk, hn, hs, hlc, hc, hr, hl⟩ := hL.open_
  have hL2 := (hL.later (Nat.le_refl _) (.cells #[.int .i64 t.k, .int .u64 t.n, .string t.s, .slice A t.l.length c] 25)).later (Nat.le_refl _) (.cells #[.int .i64 0, .int .u64 0, .string ⟨#[]⟩, .slice none 0 0] 25)
  have d1 : (t.k != 4) = false := by simpa using hK
  have d2 : (t.n != k) = true := by simpa using hN
  have h1 := refRight_any t _ _ hL2
  rw [hR] at h1
  simp only [World.size_alloc] at h1
  clear hR hK hN
  go_enter Try.func11, Try.ntmps11
  go_wp2_with fail
  refine h1.mono ?_
  rintro e w1 ⟨rfl, hb1⟩
  have hB := (Blk.new (w.alloc (.cells #[.int .i64 t.k, .int .u64 t.n, .string t.s, .slice A t.l.length c] 25)) 25 #[.int .i64 0, .int .u64 0, .string ⟨#[]⟩, .slice none 0 0]).below hb1 (by simp)
  have hC := ((Blk.new w 25 #[.int .i64 t.k, .int .u64 t.n, .string t.s, .slice A t.l.length c]).alloc (.cells #[.int .i64 0, .int .u64 0, .string ⟨#[]⟩, .slice none 0 0] 25)).below hb1 (by omega)
  simp only [World.size_alloc] at hB
  have z0 := hB.cell 0
  have z1 := hB.cell 1
  have z2 := hB.cell 2
  have z3 := hB.cell 3
  have y0 := hC.cell 0
  have y1 := hC.cell 1
  simp at z0 z1 z2 z3 y0 y1
  have f0 := hB.frozen 0
  have f1 := hB.frozen 1
  have f2 := hB.frozen 2
  have f3 := hB.frozen 3
  go_wp2_with fail
  refine bodyPost_ret (v := .tuple #[T.val zT (.slice none 0 0), .int .i64 31]) (by simp [results, Try.results11, go_sem, z0, z1, z2, z3, show zT.k = 0 from rfl, show zT.n = 0 from rfl, show zT.s = ⟨#[]⟩ from rfl]) rfl ⟨?_, none, 0, rfl, Held.nil _ _ _, fits_z⟩
  exact four_below (o := 0) (below2 hb1) (by omega) _ _ _ _

set_option maxRecDepth 100000 in
set_option maxHeartbeats 400000 in
theorem refOpen_ok (k : Int) (t : T) (v : Value) (w : World) (hL : Lies w w.heap.size t v) (hR : t.right = 0) (hK : t.k = 4) (hN : t.n = k) (h0 : 0 < t.l.length) :
    Calls Try.prog 11 #[.int .u64 k, T.val t v] w (Ans w (t.l[0], 0)) := by
  obtain ⟨A, c, xs, rfl, hk, hn, hs, hlc, hc, hr, hl⟩ := hL.open_
  have hL2 := (hL.later (Nat.le_refl _) (.cells #[.int .i64 t.k, .int .u64 t.n, .string t.s, .slice A t.l.length c] 25)).later (Nat.le_refl _) (.cells #[.int .i64 0, .int .u64 0, .string ⟨#[]⟩, .slice none 0 0] 25)
  have d1 : (t.k != 4) = false := by simpa using hK
  have d2 : (t.n != k) = false := by simpa using hN
  have h1 := refRight_any t _ _ hL2
  rw [hR] at h1
  simp only [World.size_alloc] at h1
  clear hR hK hN
  go_enter Try.func11, Try.ntmps11
  go_wp2_with fail
  refine h1.mono ?_
  rintro e w1 ⟨rfl, hb1⟩
  have hz1 := hb1.size
  simp only [World.size_alloc] at hz1
  have hBel1 := below2 hb1
  have hB := (Blk.new (w.alloc (.cells #[.int .i64 t.k, .int .u64 t.n, .string t.s, .slice A t.l.length c] 25)) 25 #[.int .i64 0, .int .u64 0, .string ⟨#[]⟩, .slice none 0 0]).below hb1 (by simp)
  have hC := ((Blk.new w 25 #[.int .i64 t.k, .int .u64 t.n, .string t.s, .slice A t.l.length c]).alloc (.cells #[.int .i64 0, .int .u64 0, .string ⟨#[]⟩, .slice none 0 0] 25)).below hb1 (by omega)
  simp only [World.size_alloc] at hB
  have y0 := hC.cell 0
  have y1 := hC.cell 1
  have y3 := hC.cell 3
  obtain ⟨b, off, A', c', rfl, hbl, hv, q0, q1, q2, q3⟩ := at_cells (hr.below hBel1) (hl.below hBel1) h0
  simp at y0 y1 y3 q0 q1 q2 q3
  have h2 := copy_any _ _ _ _ (Nat.le_refl _) (Lies.now hv (by omega))
  unfold CPost at h2
  go_wp2_with fail
  refine h2.mono ?_
  rintro e w2 ⟨hb2, A2, c2, rfl, hh⟩
  have hz2 := hb2.size
  have hB2 := hB.below hb2 (by omega)
  have z0 := hB2.cell 0
  have z1 := hB2.cell 1
  have z2 := hB2.cell 2
  have z3 := hB2.cell 3
  simp at z0 z1 z2 z3
  have f0 := hB2.frozen 0
  have f1 := hB2.frozen 1
  have f2 := hB2.frozen 2
  have f3 := hB2.frozen 3
  go_wp2_with fail
  have hw2 : w.heap.size + 1 < w2.heap.size := by omega
  refine bodyPost_ret (v := .tuple #[T.val t.l[0] (.slice A2 t.l[0].l.length c2), .int .i64 0]) (by simp [results, Try.results11, go_sem, z0, z1, z2, z3, hw2]) rfl ⟨?_, A2, c2, rfl, ?_, hv.fits⟩
  · exact four_below (o := 0) (hBel1.trans (hb2.mono (by omega))) (by omega) _ _ _ _
  · exact hh.move (by omega) (by simp) fun p p1 p2 => four_cell w2 (w.heap.size + 1) 0 _ _ _ _ p (by omega)

theorem refOpen_any (k : Int) (t : T) (v : Value) (w : World) (hL : Lies w w.heap.size t v) :
    Calls Try.prog 11 #[.int .u64 k, T.val t v] w (Ans w (openT k t)) := by
  unfold openT
  by_cases h1 : t.right = 0
  · rw [if_neg (by simpa using h1)]
    by_cases h2 : t.k = 4
    · rw [if_neg (by simpa using h2)]
      by_cases h3 : t.n = k
      · rw [if_neg (by simpa using h3)]
        have h0 : 0 < t.l.length := by rw [box_len h1 h2]; omega
        rw [head_get h0]
        exact refOpen_ok k t v w hL h1 h2 h3 h0
      · rw [if_pos h3]; exact refOpen_key k t v w hL h1 h2 h3
    · rw [if_pos h2]; exact refOpen_kind k t v w hL h1 h2
  · rw [if_pos h1]; exact refOpen_bad k t v w hL h1
end Go.Proofs.Ytgdmhfdlijeogaa.boxes
