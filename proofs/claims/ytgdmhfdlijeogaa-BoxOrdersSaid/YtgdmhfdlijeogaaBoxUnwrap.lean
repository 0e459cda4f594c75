/- Unwrap: the program's. -/
import Derived.Test.YtgdmhfdlijeogaaBoxWrap
namespace Go.Proofs.Ytgdmhfdlijeogaa.boxes
set_option linter.unusedVariables false
set_option linter.unusedSimpArgs false
open Go.RowKit Go.Proofs.Ytgdmhfdlijeogaa.base Go.Proofs.Ytgdmhfdlijeogaa.tm Go.Proofs.Ytgdmhfdlijeogaa.lies Go.Proofs.Ytgdmhfdlijeogaa.rights Go.Proofs.Ytgdmhfdlijeogaa.encs Go.Proofs.Ytgdmhfdlijeogaa.copies Go.Proofs.Ytgdmhfdlijeogaa.makes Go.Proofs.Ytgdmhfdlijeogaa.reads Go.Proofs.Ytgdmhfdlijeogaa.likes

/-- Unwrap's loop, at its head: m keys are left -/
def UHead (W : World) (fin : T × Int) (ks : List Int) (ev iv : Value) (wr : World) : Prop :=
  ∃ (m : Nat) (r : T × Int) (A : Option Addr) (c : Nat) (z : Int), m ≤ ks.length ∧ iv = .int .i64 z ∧ z = (m : Int) - 1 ∧ ev = .int .i64 r.2 ∧ Blk wr W.heap.size 25 #[.int .i64 r.1.k, .int .u64 r.1.n, .string r.1.s, .slice A r.1.l.length c] ∧
    Blk wr (W.heap.size + 1) 25 #[.int .i64 0, .int .u64 0, .string ⟨#[]⟩, .slice none 0 0] ∧ Held wr (W.heap.size + 2) wr.heap.size r.1.l (.slice A r.1.l.length c) ∧ Fits r.1 ∧ Below W.heap.size W wr ∧ W.heap.size + 2 ≤ wr.heap.size ∧ Hid (contU r (ks.take m).reverse = fin)
theorem uhead_next {W wr w2 : World} {fin r r2 : T × Int} {ks : List Int} {j : Nat} {A A3 : Option Addr} {c c3 : Nat} {o : Int} (hlt : j < ks.length) (ho : o = (j : Int) - 1)
    (hkb : Blk wr W.heap.size 25 #[.int .i64 r.1.k, .int .u64 r.1.n, .string r.1.s, .slice A r.1.l.length c]) (hrb : Blk wr (W.heap.size + 1) 25 #[.int .i64 0, .int .u64 0, .string ⟨#[]⟩, .slice none 0 0])
    (hB : Below W.heap.size W wr) (hzr : W.heap.size + 2 ≤ wr.heap.size) (hb2 : Below wr.heap.size wr w2) (hH3 : Held w2 wr.heap.size w2.heap.size r2.1.l (.slice A3 r2.1.l.length c3)) (hF3 : Fits r2.1)
    (hnx : Hid (contU r2 (ks.take j).reverse = fin)) :
    UHead W fin ks (.int .i64 r2.2) (.int .i64 o) (four w2 W.heap.size 0 (.int .i64 r2.1.k) (.int .u64 r2.1.n) (.string r2.1.s) (.slice A3 r2.1.l.length c3)) := by
  have hz2 := hb2.size
  refine ⟨j, r2, A3, c3, o, by omega, rfl, ho, rfl, set4 (hkb.below hb2 (by omega)) _ _ _ _, far4 (hrb.below hb2 (by omega)) (by omega) _ _ _ _, ?_, hF3, four_below (hB.trans (hb2.mono hB.size)) (Nat.le_refl _) _ _ _ _, by rw [four_size]; omega, hnx⟩
  exact hH3.move (by omega) (by rw [four_size]; exact Nat.le_refl _) fun p p1 p2 => four_cell w2 W.heap.size 0 _ _ _ _ p (by omega)

set_option maxRecDepth 100000 in
set_option maxHeartbeats 800000 in
theorem unwrap_any (t : T) (v : Value) (K : Option Addr) (kc : Nat) (ks : List Int) (w : World) (hL : Lies w w.heap.size t v) (hK : Keys w K kc ks) :
    Calls Try.prog 15 #[T.val t v, .slice K ks.length kc] w (Ans w (unwrapT t ks)) := by
  obtain ⟨A, c, xs, rfl, hk, hn', hs, hlc, hc, hr, hl⟩ := hL.open_
  have hmax := hK.2.2.1
  have hkc := hK.2.1
  unfold maxLen at hmax
  have hL2 := (hL.later (Nat.le_refl _) (.cells #[.int .i64 t.k, .int .u64 t.n, .string t.s, .slice A t.l.length c] 25)).later (Nat.le_refl _) (.cells #[.int .i64 0, .int .u64 0, .string ⟨#[]⟩, .slice none 0 0] 25)
  have h1 := begun_any t _ K ks.length kc _ hK.2.2.1 hL2
  have k0 := (Blk.new w 25 #[.int .i64 t.k, .int .u64 t.n, .string t.s, .slice A t.l.length c]).alloc (.cells #[.int .i64 0, .int .u64 0, .string ⟨#[]⟩, .slice none 0 0] 25)
  have b0 := Blk.new (w.alloc (.cells #[.int .i64 t.k, .int .u64 t.n, .string t.s, .slice A t.l.length c] 25)) 25 #[.int .i64 0, .int .u64 0, .string ⟨#[]⟩, .slice none 0 0]
  have HF : Hid (unwrapT t ks = contU (begunT t ks.length) (ks.take ks.length).reverse) := lay (by rw [List.take_length]; rfl)
  generalize unwrapT t ks = fin at HF
  generalize begunT t ks.length = r0 at h1 HF
  go_enter Try.func15, Try.ntmps15
  go_wp2_with fail
  refine h1.mono ?_
  rintro e w1 ⟨hb1, A1, c1, rfl, hH1, hF1⟩
  have hz1 := hb1.size
  simp only [World.size_alloc] at hb1 hz1 hH1
  have k1 := k0.below hb1 (by omega)
  have b1 := b0.below hb1 (by simp)
  simp only [World.size_alloc] at b1
  have z0 := k1.cell 0
  have z1 := k1.cell 1
  have z2 := k1.cell 2
  have z3 := k1.cell 3
  simp at z0 z1 z2 z3
  have f0 := k1.frozen 0
  have f1 := k1.frozen 1
  have f2 := k1.frozen 2
  have f3 := k1.frozen 3
  have hB1 := below2 hb1
  go_wp2_with fail
  have hBel0 := four_below (o := 0) hB1 (Nat.le_refl _) (.int .i64 r0.1.k) (.int .u64 r0.1.n) (.string r0.1.s) (.slice A1 r0.1.l.length c1)
  have hk0 := four_blk (o := 0) k1 (.int .i64 r0.1.k) (.int .u64 r0.1.n) (.string r0.1.s) (.slice A1 r0.1.l.length c1)
  simp at hk0
  clear z0 z1 z2 z3 f0 f1 f2 f3
  go_loopw [6, 7] (fun e i wr => UHead w fin ks e i wr) (fun _ i _ => (intOf i + 1).toNat)
  case atStart =>
    refine ⟨ks.length, r0, A1, c1, (ks.length : Int) - 1, Nat.le_refl _, by go_num, rfl, rfl, hk0, ?_, ?_, hF1, hBel0, ?_, lay HF.out.symm⟩
    · exact (((b1.far (p := ⟨w.heap.size, 0, none⟩) (by show w.heap.size + 1 ≠ w.heap.size; omega) _).far (p := ⟨w.heap.size, 1, none⟩) (by show w.heap.size + 1 ≠ w.heap.size; omega) _).far (p := ⟨w.heap.size, 2, none⟩) (by show w.heap.size + 1 ≠ w.heap.size; omega) _).far (p := ⟨w.heap.size, 3, none⟩) (by show w.heap.size + 1 ≠ w.heap.size; omega) _
    · exact hH1.move (Nat.le_refl _) (by simp) fun p p1 p2 => four_cell w1 w.heap.size 0 _ _ _ _ p (by omega)
    · simp; omega
  case round =>
    obtain ⟨m, r, A2, c2, z, hj, rfl, hz, rfl, hkb, hrb, hH, hF, hB, hzr, hfin⟩ := hrel
    have z0 := hkb.cell 0
    have z1 := hkb.cell 1
    have z2 := hkb.cell 2
    have z3 := hkb.cell 3
    simp at z0 z1 z2 z3
    by_cases hE : r.2 = 0
    · by_cases hlt0 : 0 < m
      · obtain ⟨j, rfl⟩ : ∃ j, m = j + 1 := ⟨m - 1, by omega⟩
        obtain rfl : z = (j : Int) := by omega
        clear hz hlt0
        have hlt : j < ks.length := by omega
        obtain ⟨b, off, rfl, hbl, hkey, hk64⟩ := hK.at_ hB hlt
        have hLr := hH.lies hF.1 hF.2.1 hF.2.2 (Nat.le_refl _)
        have h2 := fun wx hx => open_any ks[j] r.1 (.slice A2 r.1.l.length c2) wx hx
        have hnx : Hid (contU (openT ks[j] r.1) (ks.take j).reverse = fin) := lay (by rw [← hfin.out, List.take_succ_eq_append_getElem hlt, List.reverse_append]; exact (contU_ok hE _ _).symm)
        generalize openT ks[j] r.1 = r2 at h2 hnx
        generalize ks[j] = kj at hkey hk64 h2
        have d0 : (r.2 == 0) = true := by simp [hE]
        have hlt' : (j : Int) < (ks.length : Int) := by omega
        clear hE hfin
        go_wp2_with fail
        go_region_with (go_at_call 10; refine (h2 _ (likes.Lies.drew hLr)).mono ?_; rintro e w2 ⟨hb2, A3, c3, rfl, hH3, hF3⟩; have hk2 := Blk.below (Blk.drew hkb) hb2 (by show w.heap.size < wr.heap.size; omega); have q0 := hk2.cell 0; have q1 := hk2.cell 1; have q2 := hk2.cell 2; have q3 := hk2.cell 3; simp at q0 q1 q2 q3; have e0 := hk2.frozen 0; have e1 := hk2.frozen 1; have e2 := hk2.frozen 2; have e3 := hk2.frozen 3)
        all_goals
          go_wp2_with fail
          exact ⟨uhead_next (o := (j : Int) - 1) hlt rfl hkb hrb hB hzr (below_drew hb2) hH3 hF3 hnx, by simp [intOf]⟩
      · obtain rfl : m = 0 := by omega
        obtain rfl : z = -1 := by omega
        clear hz hlt0
        have d0 : (r.2 == 0) = true := by simp [hE]
        have hfr : fin = r := by rw [← hfin.out]; rfl
        subst hfr
        have x0 := hrb.cell 0
        have x1 := hrb.cell 1
        have x2 := hrb.cell 2
        have x3 := hrb.cell 3
        simp at x0 x1 x2 x3
        have e0 := hrb.frozen 0
        have e1 := hrb.frozen 1
        have e2 := hrb.frozen 2
        have e3 := hrb.frozen 3
        have hw1 : w.heap.size + 1 < wr.heap.size := by omega
        clear hE hfin
        go_wp2_with fail
        refine bodyPost_ret (v := .tuple #[T.val fin.1 (.slice A2 fin.1.l.length c2), .int .i64 fin.2]) (by simp [results, Try.results15, go_sem, x0, x1, x2, x3, hw1]) rfl ⟨?_, A2, c2, rfl, ?_, hF⟩
        · exact four_below (o := 0) hB (by omega) _ _ _ _
        · exact hH.move (by omega) (by simp) fun p p1 p2 => four_cell wr (w.heap.size + 1) 0 _ _ _ _ p (by omega)
    · have d0 : (r.2 == 0) = false := by simpa using hE
      have hfr : fin = r := by rw [← hfin.out, contU_bad hE]
      subst hfr
      have x0 := hrb.cell 0
      have x1 := hrb.cell 1
      have x2 := hrb.cell 2
      have x3 := hrb.cell 3
      simp at x0 x1 x2 x3
      have e0 := hrb.frozen 0
      have e1 := hrb.frozen 1
      have e2 := hrb.frozen 2
      have e3 := hrb.frozen 3
      have hw1 : w.heap.size + 1 < wr.heap.size := by omega
      clear hE hfin
      go_wp2_with fail
      refine bodyPost_ret (v := .tuple #[T.val fin.1 (.slice A2 fin.1.l.length c2), .int .i64 fin.2]) (by simp [results, Try.results15, go_sem, x0, x1, x2, x3, hw1]) rfl ⟨?_, A2, c2, rfl, ?_, hF⟩
      · exact four_below (o := 0) hB (by omega) _ _ _ _
      · exact hH.move (by omega) (by simp) fun p p1 p2 => four_cell wr (w.heap.size + 1) 0 _ _ _ _ p (by omega)
end Go.Proofs.Ytgdmhfdlijeogaa.boxes
