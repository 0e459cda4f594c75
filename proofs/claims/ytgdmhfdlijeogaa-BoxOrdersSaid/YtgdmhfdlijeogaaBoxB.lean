/- box.Seal, box.Open: what they answer. -/
import Derived.Test.YtgdmhfdlijeogaaBoxA
namespace Go.Proofs.Ytgdmhfdlijeogaa.boxes
set_option linter.unusedVariables false
set_option linter.unusedSimpArgs false
open Go.RowKit Go.Proofs.Ytgdmhfdlijeogaa.base Go.Proofs.Ytgdmhfdlijeogaa.tm Go.Proofs.Ytgdmhfdlijeogaa.lies Go.Proofs.Ytgdmhfdlijeogaa.rights Go.Proofs.Ytgdmhfdlijeogaa.copies Go.Proofs.Ytgdmhfdlijeogaa.makes Go.Proofs.Ytgdmhfdlijeogaa.reads

theorem fits_box {k : Int} {t : T} (hk : 0 ≤ k ∧ k < 18446744073709551616) : Fits (boxT k t) := by
  refine ⟨?_, hk, ?_⟩
  · show (-9223372036854775808 : Int) ≤ 4 ∧ (4 : Int) ≤ 9223372036854775807; omega
  · exact Nat.zero_le _
/-- a held list of one in a new block of a box's cells -/
theorem held_box {w : World} {k : Int} {t : T} {A : Option Addr} {c lo : Nat} (hk : 0 ≤ k ∧ k < 18446744073709551616) (h : Held w lo w.heap.size [t] (.slice A 1 c)) :
    Lies (w.alloc (.cells #[.int .i64 4, .int .u64 k, .string ⟨#[]⟩, .slice A 1 c] 25)) (w.alloc (.cells #[.int .i64 4, .int .u64 k, .string ⟨#[]⟩, .slice A 1 c] 25)).heap.size (boxT k t) (.slice A 1 c) := by
  have h2 : Held w lo w.heap.size (boxT k t).l (.slice A 1 c) := h
  have hF := fits_box (t := t) hk
  exact (h2.lies hF.1 hF.2.1 hF.2.2 (Nat.le_refl _)).later (Nat.le_refl _) _

theorem right_box (k : Int) (t : T) (v : Value) (w : World) (hL : Lies w w.heap.size (boxT k t) v) :
    Calls Try.prog 21 #[.agg #[.int .i64 4, .int .u64 k, .string ⟨#[]⟩, v]] w fun e w' => e = .returned (.int .i64 (boxT k t).right) ∧ Below w.heap.size w w' := adds.right_any _ _ _ hL

set_option maxRecDepth 100000 in
set_option maxHeartbeats 400000 in
theorem seal_more (k : Int) (t : T) (v : Value) (w : World) (hkk : 0 ≤ k ∧ k < 18446744073709551616) (hL : Lies w w.heap.size t v) (hR : t.right = 0) (hS : (boxT k t).right ≠ 0) :
    Calls Try.prog 8 #[.int .u64 k, T.val t v] w (Ans w (zT, (boxT k t).right)) := by
  obtain ⟨A, c, xs, rfl, hk, hn, hs, hlc, hc, hr, hl⟩ := hL.open_
  have hL2 := (hL.later (Nat.le_refl _) (.cells #[.int .i64 t.k, .int .u64 t.n, .string t.s, .slice A t.l.length c] 25)).later (Nat.le_refl _) (.cells #[.int .i64 0, .int .u64 0, .string ⟨#[]⟩, .slice none 0 0] 25)
  have d1 : ((boxT k t).right != 0) = true := by simpa using hS
  have h1 := adds.right_any t _ _ hL2
  rw [hR] at h1
  simp only [World.size_alloc] at h1
  clear hR hS
  go_enter Try.func8, Try.ntmps8
  go_wp2_with fail
  refine h1.mono ?_
  rintro e w1 ⟨rfl, hb1⟩
  have hz1 := hb1.size
  simp only [World.size_alloc] at hz1
  have hL3 := Lies.now (hL2.below (hb1.mono (by simp))) (by simp; omega)
  have hB := (Blk.new (w.alloc (.cells #[.int .i64 t.k, .int .u64 t.n, .string t.s, .slice A t.l.length c] 25)) 25 #[.int .i64 0, .int .u64 0, .string ⟨#[]⟩, .slice none 0 0]).below hb1 (by simp)
  have hC := ((Blk.new w 25 #[.int .i64 t.k, .int .u64 t.n, .string t.s, .slice A t.l.length c]).alloc (.cells #[.int .i64 0, .int .u64 0, .string ⟨#[]⟩, .slice none 0 0] 25)).below hb1 (by omega)
  simp only [World.size_alloc] at hB
  have y0 := hC.cell 0
  have y1 := hC.cell 1
  have y2 := hC.cell 2
  have y3 := hC.cell 3
  simp at y0 y1 y2 y3
  have h2 := of_any [t] _ _ _ _ (liesS_one hL3 (Nat.le_refl _)) (Nat.le_refl _)
  simp only [List.length_singleton, World.size_alloc] at h2
  go_wp2_with fail
  refine h2.mono ?_
  rintro e w2 ⟨A1, c1, rfl, hh, hb2⟩
  have hz2 := hb2.size
  simp only [World.size_alloc] at hz2
  have hfd := fun v u => field_list 5 0 ⟨#[]⟩ v u
  have h3 := right_box k t _ _ (held_box hkk hh)
  simp only [World.size_alloc] at h3
  go_wp2_with fail
  refine h3.mono ?_
  rintro e w3 ⟨rfl, hb3⟩
  have hz3 := hb3.size
  simp only [World.size_alloc] at hz3
  have hB3 := (((hB.alloc (.cells #[.int .i64 t.k, .int .u64 t.n, .string t.s, .slice A t.l.length c] 25)).below hb2 (by omega)).alloc (.cells #[.int .i64 4, .int .u64 k, .string ⟨#[]⟩, .slice A1 1 c1] 25)).below hb3 (by omega)
  have z0 := hB3.cell 0
  have z1 := hB3.cell 1
  have z2 := hB3.cell 2
  have z3 := hB3.cell 3
  simp at z0 z1 z2 z3
  have f0 := hB3.frozen 0
  have f1 := hB3.frozen 1
  have f2 := hB3.frozen 2
  have f3 := hB3.frozen 3
  have hw3 : w.heap.size + 1 < w3.heap.size := by omega
  have hBel : Below w.heap.size w w3 := (below2 hb1).trans ((((Below.refl _ _).alloc (by omega) _).trans (hb2.mono (by omega))).trans (((Below.refl _ _).alloc (by omega) _).trans (hb3.mono (by omega))))
  go_wp2_with fail
  refine bodyPost_ret (v := .tuple #[T.val zT (.slice none 0 0), .int .i64 (boxT k t).right]) (by simp [results, Try.results8, go_sem, z0, z1, z2, z3, hw3, show zT.k = 0 from rfl, show zT.n = 0 from rfl, show zT.s = ⟨#[]⟩ from rfl]) rfl ⟨?_, none, 0, rfl, Held.nil _ _ _, fits_z⟩
  exact four_below (o := 0) hBel (by omega) _ _ _ _

set_option maxRecDepth 100000 in
set_option maxHeartbeats 400000 in
theorem seal_ok (k : Int) (t : T) (v : Value) (w : World) (hkk : 0 ≤ k ∧ k < 18446744073709551616) (hL : Lies w w.heap.size t v) (hR : t.right = 0) (hS : (boxT k t).right = 0) :
    Calls Try.prog 8 #[.int .u64 k, T.val t v] w (Ans w (boxT k t, 0)) := by
  obtain ⟨A, c, xs, rfl, hk, hn, hs, hlc, hc, hr, hl⟩ := hL.open_
  have hL2 := (hL.later (Nat.le_refl _) (.cells #[.int .i64 t.k, .int .u64 t.n, .string t.s, .slice A t.l.length c] 25)).later (Nat.le_refl _) (.cells #[.int .i64 0, .int .u64 0, .string ⟨#[]⟩, .slice none 0 0] 25)
  have h1 := adds.right_any t _ _ hL2
  rw [hR] at h1
  simp only [World.size_alloc] at h1
  clear hR
  go_enter Try.func8, Try.ntmps8
  go_wp2_with fail
  refine h1.mono ?_
  rintro e w1 ⟨rfl, hb1⟩
  have hz1 := hb1.size
  simp only [World.size_alloc] at hz1
  have hL3 := Lies.now (hL2.below (hb1.mono (by simp))) (by simp; omega)
  have hB := (Blk.new (w.alloc (.cells #[.int .i64 t.k, .int .u64 t.n, .string t.s, .slice A t.l.length c] 25)) 25 #[.int .i64 0, .int .u64 0, .string ⟨#[]⟩, .slice none 0 0]).below hb1 (by simp)
  have hC := ((Blk.new w 25 #[.int .i64 t.k, .int .u64 t.n, .string t.s, .slice A t.l.length c]).alloc (.cells #[.int .i64 0, .int .u64 0, .string ⟨#[]⟩, .slice none 0 0] 25)).below hb1 (by omega)
  simp only [World.size_alloc] at hB
  have y0 := hC.cell 0
  have y1 := hC.cell 1
  have y2 := hC.cell 2
  have y3 := hC.cell 3
  simp at y0 y1 y2 y3
  have h2 := of_any [t] _ _ _ _ (liesS_one hL3 (Nat.le_refl _)) (Nat.le_refl _)
  simp only [List.length_singleton, World.size_alloc] at h2
  go_wp2_with fail
  refine h2.mono ?_
  rintro e w2 ⟨A1, c1, rfl, hh, hb2⟩
  have hz2 := hb2.size
  simp only [World.size_alloc] at hz2
  have hfd := fun v u => field_list 5 0 ⟨#[]⟩ v u
  have h3 := right_box k t _ _ (held_box hkk hh)
  rw [hS] at h3
  simp only [World.size_alloc] at h3
  clear hS
  go_wp2_with fail
  refine h3.mono ?_
  rintro e w3 ⟨rfl, hb3⟩
  have hz3 := hb3.size
  simp only [World.size_alloc] at hz3
  have hB3 := (((hB.alloc (.cells #[.int .i64 t.k, .int .u64 t.n, .string t.s, .slice A t.l.length c] 25)).below hb2 (by omega)).alloc (.cells #[.int .i64 4, .int .u64 k, .string ⟨#[]⟩, .slice A1 1 c1] 25)).below hb3 (by omega)
  have hX3 := (Blk.new w2 25 #[.int .i64 4, .int .u64 k, .string ⟨#[]⟩, .slice A1 1 c1]).below hb3 (by omega)
  have z0 := hB3.cell 0
  have z1 := hB3.cell 1
  have z2 := hB3.cell 2
  have z3 := hB3.cell 3
  have x0 := hX3.cell 0
  have x1 := hX3.cell 1
  have x2 := hX3.cell 2
  have x3 := hX3.cell 3
  simp at z0 z1 z2 z3 x0 x1 x2 x3
  have f0 := hB3.frozen 0
  have f1 := hB3.frozen 1
  have f2 := hB3.frozen 2
  have f3 := hB3.frozen 3
  have hw3 : w.heap.size + 1 < w3.heap.size := by omega
  have hBel : Below w.heap.size w w3 := (below2 hb1).trans ((((Below.refl _ _).alloc (by omega) _).trans (hb2.mono (by omega))).trans (((Below.refl _ _).alloc (by omega) _).trans (hb3.mono (by omega))))
  have hH3 : Held w3 (w1.heap.size + 1) w2.heap.size [t] (.slice A1 1 c1) := hh.move (Nat.le_refl _) (Nat.le_refl _) fun p _ p2 => by rw [hb3.cell (by omega), World.cell?_alloc_lt _ _ _ p2]
  go_wp2_with fail
  refine bodyPost_ret (v := .tuple #[T.val (boxT k t) (.slice A1 1 c1), .int .i64 0]) (by simp [results, Try.results8, go_sem, z0, z1, z2, z3, hw3, show (boxT k t).k = 4 from rfl, show (boxT k t).n = k from rfl, show (boxT k t).s = ⟨#[]⟩ from rfl]) rfl ⟨?_, A1, c1, rfl, ?_, fits_box hkk⟩
  · exact four_below (o := 0) hBel (by omega) _ _ _ _
  · exact Held.move (l := [t]) hH3 (by omega) (by simp; omega) fun p p1 p2 => four_cell w3 (w.heap.size + 1) 0 _ _ _ _ p (by omega)

theorem seal_any (k : Int) (t : T) (v : Value) (w : World) (hkk : 0 ≤ k ∧ k < 18446744073709551616) (hL : Lies w w.heap.size t v) :
    Calls Try.prog 8 #[.int .u64 k, T.val t v] w (Ans w (sealT k t)) := by
  unfold sealT
  by_cases h1 : t.right = 0
  · rw [if_neg (by simpa using h1)]
    by_cases h2 : (boxT k t).right = 0
    · rw [if_neg (by simpa using h2)]; exact seal_ok k t v w hkk hL h1 h2
    · rw [if_pos h2]; exact seal_more k t v w hkk hL h1 h2
  · rw [if_pos h1]; exact seal_bad k t v w hL h1
end Go.Proofs.Ytgdmhfdlijeogaa.boxes
