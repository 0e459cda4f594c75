/- Wrap: the program's begun and Wrap. -/
import Derived.Test.YtjlglfjikfpboaaBoxQ


namespace Go.Proofs.Ytjlglfjikfpboaa.boxes
set_option linter.unusedVariables false
set_option linter.unusedSimpArgs false
open Go.RowKit Go.Proofs.Ytjlglfjikfpboaa.base Go.Proofs.Ytjlglfjikfpboaa.tm Go.Proofs.Ytjlglfjikfpboaa.lies Go.Proofs.Ytjlglfjikfpboaa.rights Go.Proofs.Ytjlglfjikfpboaa.encs Go.Proofs.Ytjlglfjikfpboaa.copies Go.Proofs.Ytjlglfjikfpboaa.makes Go.Proofs.Ytjlglfjikfpboaa.reads Go.Proofs.Ytjlglfjikfpboaa.likes

def begunT (t : T) (n : Nat) : T × Int := if 8 < n then (zT, 2) else if t.right ≠ 0 then (zT, t.right) else (t, 0)
def contW (r : T × Int) : List Int → T × Int
  | [] => r
  | k :: ks => if r.2 = 0 then contW (sealT k r.1) ks else r
def contU (r : T × Int) : List Int → T × Int
  | [] => r
  | k :: ks => if r.2 = 0 then contU (openT k r.1) ks else r
def wrapT (t : T) (ks : List Int) : T × Int := contW (begunT t ks.length) ks
def unwrapT (t : T) (ks : List Int) : T × Int := contU (begunT t ks.length) ks.reverse
theorem contW_bad {r : T × Int} (h : r.2 ≠ 0) (ks : List Int) : contW r ks = r := by
  cases ks with
  | nil => rfl
  | cons k ks => exact if_neg h
theorem contU_bad {r : T × Int} (h : r.2 ≠ 0) (ks : List Int) : contU r ks = r := by
  cases ks with
  | nil => rfl
  | cons k ks => exact if_neg h
theorem contW_ok {r : T × Int} (h : r.2 = 0) (k : Int) (ks : List Int) : contW r (k :: ks) = contW (sealT k r.1) ks := if_pos h
theorem contU_ok {r : T × Int} (h : r.2 = 0) (k : Int) (ks : List Int) : contU r (k :: ks) = contU (openT k r.1) ks := if_pos h

set_option maxRecDepth 100000 in
set_option maxHeartbeats 400000 in
theorem begun_any (t : T) (v : Value) (K : Option Addr) (n kc : Nat) (w : World) (hn : n ≤ maxLen) (hL : Lies w w.heap.size t v) :
    Calls Try.prog 59 #[T.val t v, .slice K n kc] w (Ans w (begunT t n)) := by
  obtain ⟨A, c, xs, rfl, hk, hn', hs, hlc, hc, hr, hl⟩ := hL.open_
  unfold maxLen at hn
  have hL2 := (hL.later (Nat.le_refl _) (.cells #[.int .i64 t.k, .int .u64 t.n, .string t.s, .slice A t.l.length c] 39)).later (Nat.le_refl _) (.cells #[.int .i64 0, .int .u64 0, .string ⟨#[]⟩, .slice none 0 0] 39)
  have h1 := adds.right_any t _ _ hL2
  simp only [World.size_alloc] at h1
  have k0 := (Blk.new w 39 #[.int .i64 t.k, .int .u64 t.n, .string t.s, .slice A t.l.length c]).alloc (.cells #[.int .i64 0, .int .u64 0, .string ⟨#[]⟩, .slice none 0 0] 39)
  have b0 := Blk.new (w.alloc (.cells #[.int .i64 t.k, .int .u64 t.n, .string t.s, .slice A t.l.length c] 39)) 39 #[.int .i64 0, .int .u64 0, .string ⟨#[]⟩, .slice none 0 0]
  unfold begunT
  by_cases h8 : 8 < n
  · rw [if_pos h8]
    go_enter Try.func59, Try.ntmps59
    go_wp2_with fail
    refine bodyPost_ret (v := .tuple #[T.val zT (.slice none 0 0), .int .i64 2]) (by simp [results, Try.results59, go_sem, show zT.k = 0 from rfl, show zT.n = 0 from rfl, show zT.s = ⟨#[]⟩ from rfl]) rfl ⟨?_, none, 0, rfl, Held.nil _ _ _, fits_z⟩
    exact ((Below.refl _ _).alloc (Nat.le_refl _) _).alloc (by simp) _
  · rw [if_neg h8]
    have h8i : ¬ (8 : Int) < (n : Int) := by omega
    by_cases hR : t.right = 0
    · rw [if_neg (by simpa using hR)]
      rw [hR] at h1
      clear hR h8
      go_enter Try.func59, Try.ntmps59
      go_wp2_with fail
      refine h1.mono ?_
      rintro e w1 ⟨rfl, hb1⟩
      have hz1 := hb1.size
      simp only [World.size_alloc] at hz1
      have hL3 := Lies.now (hL2.below (hb1.mono (by simp))) (by simp; omega)
      have k1 := k0.below hb1 (by omega)
      have b1 := b0.below hb1 (by simp)
      simp only [World.size_alloc] at b1
      have y0 := k1.cell 0
      have y1 := k1.cell 1
      have y2 := k1.cell 2
      have y3 := k1.cell 3
      simp at y0 y1 y2 y3
      have h2 := copied_one t _ _ hL3
      go_wp2_with fail
      refine h2.mono ?_
      rintro e w2 ⟨hb2, A2, c2, rfl, hh⟩
      have hz2 := hb2.size
      have b2 := b1.below hb2 (by omega)
      have z0 := b2.cell 0
      have z1 := b2.cell 1
      have z2 := b2.cell 2
      have z3 := b2.cell 3
      simp at z0 z1 z2 z3
      have f0 := b2.frozen 0
      have f1 := b2.frozen 1
      have f2 := b2.frozen 2
      have f3 := b2.frozen 3
      have hw2 : w.heap.size + 1 < w2.heap.size := by omega
      go_wp2_with fail
      refine bodyPost_ret (v := .tuple #[T.val t (.slice A2 t.l.length c2), .int .i64 0]) (by simp [results, Try.results59, go_sem, z0, z1, z2, z3, hw2]) rfl ⟨?_, A2, c2, rfl, ?_, hL.fits⟩
      · exact four_below (o := 0) ((below2 hb1).trans (hb2.mono (by omega))) (by omega) _ _ _ _
      · exact hh.move (by omega) (by simp) fun p p1 p2 => four_cell w2 (w.heap.size + 1) 0 _ _ _ _ p (by omega)
    · rw [if_pos hR]
      have d1 : (t.right != 0) = true := by simpa using hR
      clear hR h8
      go_enter Try.func59, Try.ntmps59
      go_wp2_with fail
      refine h1.mono ?_
      rintro e w1 ⟨rfl, hb1⟩
      have b1 := b0.below hb1 (by simp)
      simp only [World.size_alloc] at b1
      have z0 := b1.cell 0
      have z1 := b1.cell 1
      have z2 := b1.cell 2
      have z3 := b1.cell 3
      simp at z0 z1 z2 z3
      have f0 := b1.frozen 0
      have f1 := b1.frozen 1
      have f2 := b1.frozen 2
      have f3 := b1.frozen 3
      go_wp2_with fail
      refine bodyPost_ret (v := .tuple #[T.val zT (.slice none 0 0), .int .i64 t.right]) (by simp [results, Try.results59, go_sem, z0, z1, z2, z3, show zT.k = 0 from rfl, show zT.n = 0 from rfl, show zT.s = ⟨#[]⟩ from rfl]) rfl ⟨?_, none, 0, rfl, Held.nil _ _ _, fits_z⟩
      exact four_below (o := 0) (below2 hb1) (by omega) _ _ _ _

/-- the keys that came in -/
def Keys (w : World) (K : Option Addr) (kc : Nat) (ks : List Int) : Prop :=
  Rd w w.heap.size K (ks.map (Value.int .u64)) ∧ ks.length ≤ kc ∧ ks.length ≤ maxLen ∧ ∀ k ∈ ks, 0 ≤ k ∧ k < 18446744073709551616
theorem Keys.at_ {w w' : World} {K : Option Addr} {kc : Nat} {ks : List Int} (h : Keys w K kc ks) (hb : Below w.heap.size w w') {j : Nat} (hj : j < ks.length) :
    ∃ b off, K = some ⟨b, off, none⟩ ∧ b < w.heap.size ∧ w'.cell? ⟨b, off + j, none⟩ = some (.int .u64 ks[j]) ∧ (0 ≤ ks[j] ∧ ks[j] < 18446744073709551616) := by
  obtain ⟨b, off, e, hlt, hc⟩ := (h.1.below hb).at_ (k := j) (by simpa using hj)
  exact ⟨b, off, e, hlt, by simpa using hc, h.2.2.2 _ (List.getElem_mem hj)⟩

/-- Wrap's loop, at its head -/
def WHead (W : World) (fin : T × Int) (ks : List Int) (ev iv : Value) (wr : World) : Prop :=
  ∃ (j : Nat) (r : T × Int) (A : Option Addr) (c : Nat), j ≤ ks.length ∧ iv = .int .i64 j ∧ ev = .int .i64 r.2 ∧ Blk wr W.heap.size 39 #[.int .i64 r.1.k, .int .u64 r.1.n, .string r.1.s, .slice A r.1.l.length c] ∧
    Blk wr (W.heap.size + 1) 39 #[.int .i64 0, .int .u64 0, .string ⟨#[]⟩, .slice none 0 0] ∧ Held wr (W.heap.size + 2) wr.heap.size r.1.l (.slice A r.1.l.length c) ∧ Fits r.1 ∧ Below W.heap.size W wr ∧ W.heap.size + 2 ≤ wr.heap.size ∧ Hid (contW r (ks.drop j) = fin)

theorem below_drew {B : Nat} {w w2 : World} (h : Below B w.drew w2) : Below B w w2 := ((Below.refl B w).drew).trans h
theorem far4 {w : World} {g h : Nat} {T : TypeId} {cs : Array Value} (hb : Blk w g T cs) (hne : g ≠ h) (a b c d : Value) : Blk (four w h 0 a b c d) g T cs :=
  (((hb.far (p := ⟨h, 0, none⟩) hne _).far (p := ⟨h, 0 + 1, none⟩) hne _).far (p := ⟨h, 0 + 2, none⟩) hne _).far (p := ⟨h, 0 + 3, none⟩) hne _
theorem set4 {w : World} {g : Nat} {T : TypeId} {x y z u : Value} (hb : Blk w g T #[x, y, z, u]) (a b c d : Value) : Blk (four w g 0 a b c d) g T #[a, b, c, d] := by
  have := four_blk (o := 0) hb a b c d
  simpa using this
theorem whead_next {W wr w2 : World} {fin r r2 : T × Int} {ks : List Int} {j : Nat} {A A3 : Option Addr} {c c3 : Nat} {o : Int} (hlt : j < ks.length) (ho : Value.int .i64 o = .int .i64 ((j + 1 : Nat) : Int))
    (hkb : Blk wr W.heap.size 39 #[.int .i64 r.1.k, .int .u64 r.1.n, .string r.1.s, .slice A r.1.l.length c]) (hrb : Blk wr (W.heap.size + 1) 39 #[.int .i64 0, .int .u64 0, .string ⟨#[]⟩, .slice none 0 0])
    (hB : Below W.heap.size W wr) (hzr : W.heap.size + 2 ≤ wr.heap.size) (hb2 : Below wr.heap.size wr w2) (hH3 : Held w2 wr.heap.size w2.heap.size r2.1.l (.slice A3 r2.1.l.length c3)) (hF3 : Fits r2.1)
    (hnx : Hid (contW r2 (ks.drop (j + 1)) = fin)) :
    WHead W fin ks (.int .i64 r2.2) (.int .i64 o) (four w2 W.heap.size 0 (.int .i64 r2.1.k) (.int .u64 r2.1.n) (.string r2.1.s) (.slice A3 r2.1.l.length c3)) := by
  have hz2 := hb2.size
  refine ⟨j + 1, r2, A3, c3, hlt, ho, rfl, set4 (hkb.below hb2 (by omega)) _ _ _ _, far4 (hrb.below hb2 (by omega)) (by omega) _ _ _ _, ?_, hF3, four_below (hB.trans (hb2.mono hB.size)) (Nat.le_refl _) _ _ _ _, by rw [four_size]; omega, hnx⟩
  exact hH3.move (by omega) (by rw [four_size]; exact Nat.le_refl _) fun p p1 p2 => four_cell w2 W.heap.size 0 _ _ _ _ p (by omega)

set_option maxRecDepth 100000 in
set_option maxHeartbeats 800000 in
theorem wrap_any (t : T) (v : Value) (K : Option Addr) (kc : Nat) (ks : List Int) (w : World) (hL : Lies w w.heap.size t v) (hK : Keys w K kc ks) :
    Calls Try.prog 23 #[T.val t v, .slice K ks.length kc] w (Ans w (wrapT t ks)) := by
  obtain ⟨A, c, xs, rfl, hk, hn', hs, hlc, hc, hr, hl⟩ := hL.open_
  have hmax := hK.2.2.1
  have hkc := hK.2.1
  unfold maxLen at hmax
  have hL2 := (hL.later (Nat.le_refl _) (.cells #[.int .i64 t.k, .int .u64 t.n, .string t.s, .slice A t.l.length c] 39)).later (Nat.le_refl _) (.cells #[.int .i64 0, .int .u64 0, .string ⟨#[]⟩, .slice none 0 0] 39)
  have h1 := begun_any t _ K ks.length kc _ hK.2.2.1 hL2
  have k0 := (Blk.new w 39 #[.int .i64 t.k, .int .u64 t.n, .string t.s, .slice A t.l.length c]).alloc (.cells #[.int .i64 0, .int .u64 0, .string ⟨#[]⟩, .slice none 0 0] 39)
  have b0 := Blk.new (w.alloc (.cells #[.int .i64 t.k, .int .u64 t.n, .string t.s, .slice A t.l.length c] 39)) 39 #[.int .i64 0, .int .u64 0, .string ⟨#[]⟩, .slice none 0 0]
  have HF : Hid (wrapT t ks = contW (begunT t ks.length) ks) := lay rfl
  generalize wrapT t ks = fin at HF
  generalize begunT t ks.length = r0 at h1 HF
  go_enter Try.func23, Try.ntmps23
  go_wp2_with fail
  refine h1.mono ?_
  rintro e w1 ⟨hb1, A1, c1, rfl, hH1, hF1⟩
  have hz1 := hb1.size
  simp only [World.size_alloc] at hb1 hz1 hH1
  have k1 := k0.below hb1 (by omega)
  have b1 := b0.below hb1 (by simp)
  simp only [World.size_alloc] at b1
  have z0 := k1.cell 0
  have z1 := k1.cell 1
  have z2 := k1.cell 2
  have z3 := k1.cell 3
  simp at z0 z1 z2 z3
  have f0 := k1.frozen 0
  have f1 := k1.frozen 1
  have f2 := k1.frozen 2
  have f3 := k1.frozen 3
  have hB1 := below2 hb1
  go_wp2_with fail
  have hBel0 := four_below (o := 0) hB1 (Nat.le_refl _) (.int .i64 r0.1.k) (.int .u64 r0.1.n) (.string r0.1.s) (.slice A1 r0.1.l.length c1)
  have hk0 := four_blk (o := 0) k1 (.int .i64 r0.1.k) (.int .u64 r0.1.n) (.string r0.1.s) (.slice A1 r0.1.l.length c1)
  simp at hk0
  clear z0 z1 z2 z3 f0 f1 f2 f3
  go_loopw [6, 7] (fun e i wr => WHead w fin ks e i wr) (fun _ i _ => ks.length - (intOf i).toNat)
  case atStart =>
    refine ⟨0, r0, A1, c1, Nat.zero_le _, rfl, rfl, hk0, ?_, ?_, hF1, hBel0, ?_, lay HF.out.symm⟩
    · exact (((b1.far (p := ⟨w.heap.size, 0, none⟩) (by show w.heap.size + 1 ≠ w.heap.size; omega) _).far (p := ⟨w.heap.size, 1, none⟩) (by show w.heap.size + 1 ≠ w.heap.size; omega) _).far (p := ⟨w.heap.size, 2, none⟩) (by show w.heap.size + 1 ≠ w.heap.size; omega) _).far (p := ⟨w.heap.size, 3, none⟩) (by show w.heap.size + 1 ≠ w.heap.size; omega) _
    · exact hH1.move (Nat.le_refl _) (by simp) fun p p1 p2 => four_cell w1 w.heap.size 0 _ _ _ _ p (by omega)
    · simp; omega
  case round =>
    obtain ⟨j, r, A2, c2, hj, rfl, rfl, hkb, hrb, hH, hF, hB, hzr, hfin⟩ := hrel
    have z0 := hkb.cell 0
    have z1 := hkb.cell 1
    have z2 := hkb.cell 2
    have z3 := hkb.cell 3
    simp at z0 z1 z2 z3
    by_cases hE : r.2 = 0
    · by_cases hlt : j < ks.length
      · obtain ⟨b, off, rfl, hbl, hkey, hk64⟩ := hK.at_ hB hlt
        have hLr := hH.lies hF.1 hF.2.1 hF.2.2 (Nat.le_refl _)
        have h2 := fun wx hx => seal_any ks[j] r.1 (.slice A2 r.1.l.length c2) wx hk64 hx
        have hnx : Hid (contW (sealT ks[j] r.1) (ks.drop (j + 1)) = fin) := lay (by rw [← hfin.out, List.drop_eq_getElem_cons hlt, contW_ok hE])
        generalize sealT ks[j] r.1 = r2 at h2 hnx
        generalize ks[j] = kj at hkey hk64 h2
        have d0 : (r.2 == 0) = true := by simp [hE]
        have hlt' : (j : Int) < (ks.length : Int) := by omega
        clear hE hfin
        go_wp2_with fail
        go_region_with (go_at_call 60; refine (h2 _ (likes.Lies.drew hLr)).mono ?_; rintro e w2 ⟨hb2, A3, c3, rfl, hH3, hF3⟩; have hk2 := Blk.below (Blk.drew hkb) hb2 (by show w.heap.size < wr.heap.size; omega); have q0 := hk2.cell 0; have q1 := hk2.cell 1; have q2 := hk2.cell 2; have q3 := hk2.cell 3; simp at q0 q1 q2 q3; have e0 := hk2.frozen 0; have e1 := hk2.frozen 1; have e2 := hk2.frozen 2; have e3 := hk2.frozen 3)
        all_goals
          go_wp2_with fail
          exact ⟨whead_next (o := (j : Int) + 1) hlt (by go_num) hkb hrb hB hzr (below_drew hb2) hH3 hF3 hnx, by simp [intOf]; omega⟩
      · have hlt' : ¬ (j : Int) < (ks.length : Int) := by omega
        have d0 : (r.2 == 0) = true := by simp [hE]
        have hfr : fin = r := by rw [← hfin.out, List.drop_of_length_le (by omega)]; rfl
        subst hfr
        have x0 := hrb.cell 0
        have x1 := hrb.cell 1
        have x2 := hrb.cell 2
        have x3 := hrb.cell 3
        simp at x0 x1 x2 x3
        have e0 := hrb.frozen 0
        have e1 := hrb.frozen 1
        have e2 := hrb.frozen 2
        have e3 := hrb.frozen 3
        have hw1 : w.heap.size + 1 < wr.heap.size := by omega
        clear hE hfin
        go_wp2_with fail
        refine bodyPost_ret (v := .tuple #[T.val fin.1 (.slice A2 fin.1.l.length c2), .int .i64 fin.2]) (by simp [results, Try.results23, go_sem, x0, x1, x2, x3, hw1]) rfl ⟨?_, A2, c2, rfl, ?_, hF⟩
        · exact four_below (o := 0) hB (by omega) _ _ _ _
        · exact hH.move (by omega) (by simp) fun p p1 p2 => four_cell wr (w.heap.size + 1) 0 _ _ _ _ p (by omega)
    · have d0 : (r.2 == 0) = false := by simpa using hE
      have hfr : fin = r := by rw [← hfin.out, contW_bad hE]
      subst hfr
      have x0 := hrb.cell 0
      have x1 := hrb.cell 1
      have x2 := hrb.cell 2
      have x3 := hrb.cell 3
      simp at x0 x1 x2 x3
      have e0 := hrb.frozen 0
      have e1 := hrb.frozen 1
      have e2 := hrb.frozen 2
      have e3 := hrb.frozen 3
      have hw1 : w.heap.size + 1 < wr.heap.size := by omega
      clear hE hfin
      go_wp2_with fail
      refine bodyPost_ret (v := .tuple #[T.val fin.1 (.slice A2 fin.1.l.length c2), .int .i64 fin.2]) (by simp [results, Try.results23, go_sem, x0, x1, x2, x3, hw1]) rfl ⟨?_, A2, c2, rfl, ?_, hF⟩
      · exact four_below (o := 0) hB (by omega) _ _ _ _
      · exact hH.move (by omega) (by simp) fun p p1 p2 => four_cell wr (w.heap.size + 1) 0 _ _ _ _ p (by omega)
end Go.Proofs.Ytjlglfjikfpboaa.boxes

/- Unwrap: the program's. -/

namespace Go.Proofs.Ytjlglfjikfpboaa.boxes
set_option linter.unusedVariables false
set_option linter.unusedSimpArgs false
open Go.RowKit Go.Proofs.Ytjlglfjikfpboaa.base Go.Proofs.Ytjlglfjikfpboaa.tm Go.Proofs.Ytjlglfjikfpboaa.lies Go.Proofs.Ytjlglfjikfpboaa.rights Go.Proofs.Ytjlglfjikfpboaa.encs Go.Proofs.Ytjlglfjikfpboaa.copies Go.Proofs.Ytjlglfjikfpboaa.makes Go.Proofs.Ytjlglfjikfpboaa.reads Go.Proofs.Ytjlglfjikfpboaa.likes

/-- Unwrap's loop, at its head: m keys are left -/
def UHead (W : World) (fin : T × Int) (ks : List Int) (ev iv : Value) (wr : World) : Prop :=
  ∃ (m : Nat) (r : T × Int) (A : Option Addr) (c : Nat) (z : Int), m ≤ ks.length ∧ iv = .int .i64 z ∧ z = (m : Int) - 1 ∧ ev = .int .i64 r.2 ∧ Blk wr W.heap.size 39 #[.int .i64 r.1.k, .int .u64 r.1.n, .string r.1.s, .slice A r.1.l.length c] ∧
    Blk wr (W.heap.size + 1) 39 #[.int .i64 0, .int .u64 0, .string ⟨#[]⟩, .slice none 0 0] ∧ Held wr (W.heap.size + 2) wr.heap.size r.1.l (.slice A r.1.l.length c) ∧ Fits r.1 ∧ Below W.heap.size W wr ∧ W.heap.size + 2 ≤ wr.heap.size ∧ Hid (contU r (ks.take m).reverse = fin)
theorem uhead_next {W wr w2 : World} {fin r r2 : T × Int} {ks : List Int} {j : Nat} {A A3 : Option Addr} {c c3 : Nat} {o : Int} (hlt : j < ks.length) (ho : o = (j : Int) - 1)
    (hkb : Blk wr W.heap.size 39 #[.int .i64 r.1.k, .int .u64 r.1.n, .string r.1.s, .slice A r.1.l.length c]) (hrb : Blk wr (W.heap.size + 1) 39 #[.int .i64 0, .int .u64 0, .string ⟨#[]⟩, .slice none 0 0])
    (hB : Below W.heap.size W wr) (hzr : W.heap.size + 2 ≤ wr.heap.size) (hb2 : Below wr.heap.size wr w2) (hH3 : Held w2 wr.heap.size w2.heap.size r2.1.l (.slice A3 r2.1.l.length c3)) (hF3 : Fits r2.1)
    (hnx : Hid (contU r2 (ks.take j).reverse = fin)) :
    UHead W fin ks (.int .i64 r2.2) (.int .i64 o) (four w2 W.heap.size 0 (.int .i64 r2.1.k) (.int .u64 r2.1.n) (.string r2.1.s) (.slice A3 r2.1.l.length c3)) := by
  have hz2 := hb2.size
  refine ⟨j, r2, A3, c3, o, by omega, rfl, ho, rfl, set4 (hkb.below hb2 (by omega)) _ _ _ _, far4 (hrb.below hb2 (by omega)) (by omega) _ _ _ _, ?_, hF3, four_below (hB.trans (hb2.mono hB.size)) (Nat.le_refl _) _ _ _ _, by rw [four_size]; omega, hnx⟩
  exact hH3.move (by omega) (by rw [four_size]; exact Nat.le_refl _) fun p p1 p2 => four_cell w2 W.heap.size 0 _ _ _ _ p (by omega)

end Go.Proofs.Ytjlglfjikfpboaa.boxes

/- Wrap: the document's own. -/

namespace Go.Proofs.Ytjlglfjikfpboaa.boxes
set_option linter.unusedVariables false
set_option linter.unusedSimpArgs false
open Go.RowKit Go.Proofs.Ytjlglfjikfpboaa.base Go.Proofs.Ytjlglfjikfpboaa.tm Go.Proofs.Ytjlglfjikfpboaa.lies Go.Proofs.Ytjlglfjikfpboaa.rights Go.Proofs.Ytjlglfjikfpboaa.encs Go.Proofs.Ytjlglfjikfpboaa.copies Go.Proofs.Ytjlglfjikfpboaa.makes Go.Proofs.Ytjlglfjikfpboaa.reads Go.Proofs.Ytjlglfjikfpboaa.likes

/-- what a call leaves that answers a term, not made anew, and an error's number -/
def AnsL (W : World) (r : T × Int) (e : Ending) (w' : World) : Prop :=
  Below W.heap.size W w' ∧ ∃ (A : Option Addr) (c : Nat), e = .returned (.tuple #[T.val r.1 (.slice A r.1.l.length c), .int .i64 r.2]) ∧ Lies w' w'.heap.size r.1 (.slice A r.1.l.length c)
/-- a term that lies off the call's two boxes -/
def LiesX (W wr : World) (t : T) (v : Value) : Prop :=
  ∀ w2 B2, wr.heap.size ≤ B2 → (∀ p : Addr, p.block < wr.heap.size → p.block ≠ W.heap.size → p.block ≠ W.heap.size + 1 → w2.cell? p = wr.cell? p) → Lies w2 B2 t v
theorem LiesX.of_held {W wr : World} {lo hi : Nat} {t : T} {v : Value} (h : Held wr lo hi t.l v) (hF : Fits t) (hlo : W.heap.size + 2 ≤ lo) (hhi : hi ≤ wr.heap.size) : LiesX W wr t v := fun w2 B2 hB ha => by
  obtain ⟨A, c, rfl, h1, h2, hh⟩ := h
  obtain ⟨xs, hr, hl⟩ := hh w2 B2 (by omega) fun p p1 p2 => ha p (by omega) (by omega) (by omega)
  exact Lies.mk hF.1 hF.2.1 hF.2.2 h1 h2 hr hl
theorem LiesX.of_old {W wr : World} {t : T} {v : Value} (h : Lies W W.heap.size t v) (hB : Below W.heap.size W wr) : LiesX W wr t v := fun w2 B2 hB2 ha =>
  Lies.more (by have := hB.size; omega) t v (Lies.keep (fun p hp => by rw [ha p (by have := hB.size; omega) (by omega) (by omega), hB.cell hp]) t v h)
theorem LiesX.now {W wr : World} {t : T} {v : Value} (h : LiesX W wr t v) : Lies wr wr.heap.size t v := h wr _ (Nat.le_refl _) fun _ _ _ _ => rfl
theorem seal_zero {k : Int} {t : T} (h : (sealT k t).2 ≠ 0) : (sealT k t).1 = zT := by
  unfold sealT at h ⊢
  by_cases h1 : t.right = 0
  · rw [if_neg (by simpa using h1)] at h ⊢
    by_cases h2 : (boxT k t).right = 0
    · rw [if_neg (by simpa using h2)] at h; exact absurd rfl h
    · rw [if_pos h2]
  · rw [if_pos h1]
theorem open_zero {k : Int} {t : T} (h : (openT k t).2 ≠ 0) : (openT k t).1 = zT := by
  unfold openT at h ⊢
  by_cases h1 : t.right = 0
  · rw [if_neg (by simpa using h1)] at h ⊢
    by_cases h2 : t.k = 4
    · rw [if_neg (by simpa using h2)] at h ⊢
      by_cases h3 : t.n = k
      · rw [if_neg (by simpa using h3)] at h; exact absurd rfl h
      · rw [if_pos h3]
    · rw [if_pos h2]
  · rw [if_pos h1]

/-- the document's Wrap's loop, at its head -/
def RWHead (W : World) (fin : T × Int) (ks : List Int) (iv : Value) (wr : World) : Prop :=
  ∃ (j : Nat) (r : T) (A : Option Addr) (c : Nat), j ≤ ks.length ∧ iv = .int .i64 j ∧ Blk wr W.heap.size 39 #[.int .i64 r.k, .int .u64 r.n, .string r.s, .slice A r.l.length c] ∧
    Blk wr (W.heap.size + 1) 39 #[.int .i64 0, .int .u64 0, .string ⟨#[]⟩, .slice none 0 0] ∧ LiesX W wr r (.slice A r.l.length c) ∧ Below W.heap.size W wr ∧ W.heap.size + 2 ≤ wr.heap.size ∧ Hid (contW (r, 0) (ks.drop j) = fin)
theorem rwhead_next {W wr w2 : World} {fin : T × Int} {r : T} {r2 : T} {ks : List Int} {j : Nat} {A A3 : Option Addr} {c c3 : Nat} {o : Int} {ob : Obj} (hlt : j < ks.length) (ho : Value.int .i64 o = .int .i64 ((j + 1 : Nat) : Int))
    (hkb : Blk wr W.heap.size 39 #[.int .i64 r.k, .int .u64 r.n, .string r.s, .slice A r.l.length c]) (hrb : Blk wr (W.heap.size + 1) 39 #[.int .i64 0, .int .u64 0, .string ⟨#[]⟩, .slice none 0 0])
    (hB : Below W.heap.size W wr) (hzr : W.heap.size + 2 ≤ wr.heap.size) (hb2 : Below wr.heap.size wr w2) (hH3 : Held w2 wr.heap.size w2.heap.size r2.l (.slice A3 r2.l.length c3)) (hF3 : Fits r2)
    (hnx : Hid (contW (r2, 0) (ks.drop (j + 1)) = fin)) :
    RWHead W fin ks (.int .i64 o) ((four w2 W.heap.size 0 (.int .i64 r2.k) (.int .u64 r2.n) (.string r2.s) (.slice A3 r2.l.length c3)).alloc ob) := by
  have hz2 := hb2.size
  refine ⟨j + 1, r2, A3, c3, hlt, ho, (set4 (hkb.below hb2 (by omega)) _ _ _ _).alloc _, (far4 (hrb.below hb2 (by omega)) (by omega) _ _ _ _).alloc _, ?_, (four_below (hB.trans (hb2.mono hB.size)) (Nat.le_refl _) _ _ _ _).alloc (by rw [four_size]; omega) _, by rw [World.size_alloc, four_size]; omega, hnx⟩
  refine LiesX.of_held (lo := wr.heap.size) (hi := w2.heap.size) (hH3.move (Nat.le_refl _) (Nat.le_refl _) fun p p1 p2 => ?_) hF3 (by omega) (by rw [World.size_alloc, four_size]; omega)
  rw [World.cell?_alloc_lt _ _ _ (by rw [four_size]; exact p2), four_cell w2 W.heap.size 0 _ _ _ _ p (by omega)]

set_option maxRecDepth 100000 in
set_option maxHeartbeats 800000 in
theorem refWrap_bad (t : T) (v : Value) (K : Option Addr) (n kc : Nat) (w : World) (hn : n ≤ maxLen) (hL : Lies w w.heap.size t v) (hne : (begunT t n).2 ≠ 0) :
    Calls Try.prog 22 #[T.val t v, .slice K n kc] w (AnsL w (begunT t n)) := by
  obtain ⟨A, c, xs, rfl, hk, hn', hs, hlc, hc, hr, hl⟩ := hL.open_
  unfold maxLen at hn
  have hL2 := (hL.later (Nat.le_refl _) (.cells #[.int .i64 t.k, .int .u64 t.n, .string t.s, .slice A t.l.length c] 39)).later (Nat.le_refl _) (.cells #[.int .i64 0, .int .u64 0, .string ⟨#[]⟩, .slice none 0 0] 39)
  have h1 := refRight_any t _ _ hL2
  simp only [World.size_alloc] at h1
  have k0 := (Blk.new w 39 #[.int .i64 t.k, .int .u64 t.n, .string t.s, .slice A t.l.length c]).alloc (.cells #[.int .i64 0, .int .u64 0, .string ⟨#[]⟩, .slice none 0 0] 39)
  have b0 := Blk.new (w.alloc (.cells #[.int .i64 t.k, .int .u64 t.n, .string t.s, .slice A t.l.length c] 39)) 39 #[.int .i64 0, .int .u64 0, .string ⟨#[]⟩, .slice none 0 0]
  unfold begunT at hne ⊢
  have zl := fun (wx : World) => lies_bare wx wx.heap.size 0 0 ⟨#[]⟩ (by omega) (by omega) (Nat.zero_le _)
  by_cases h8 : 8 < n
  · rw [if_pos h8]
    clear hne
    go_enter Try.func22, Try.ntmps22
    go_wp2_with fail
    refine bodyPost_ret (v := .tuple #[T.val zT (.slice none 0 0), .int .i64 2]) (by simp [results, Try.results22, go_sem, show zT.k = 0 from rfl, show zT.n = 0 from rfl, show zT.s = ⟨#[]⟩ from rfl]) rfl ⟨?_, none, 0, rfl, zl _⟩
    exact ((Below.refl _ _).alloc (Nat.le_refl _) _).alloc (by simp) _
  · rw [if_neg h8] at hne ⊢
    have h8i : ¬ (8 : Int) < (n : Int) := by omega
    by_cases hR : t.right = 0
    · exact absurd (by rw [if_neg (by simpa using hR)]) hne
    · rw [if_pos hR]
      have d1 : (t.right != 0) = true := by simpa using hR
      clear hR h8 hne
      go_enter Try.func22, Try.ntmps22
      go_wp2_with fail
      refine h1.mono ?_
      rintro e w1 ⟨rfl, hb1⟩
      have hz1 := hb1.size
      simp only [World.size_alloc] at hz1
      have hL3 := Lies.now (hL2.below (hb1.mono (by simp))) (by simp; omega)
      have k1 := k0.below hb1 (by omega)
      have b1 := b0.below hb1 (by simp)
      simp only [World.size_alloc] at b1
      have y0 := k1.cell 0
      have y1 := k1.cell 1
      have y2 := k1.cell 2
      have y3 := k1.cell 3
      simp at y0 y1 y2 y3
      have h2 := refRight_any t _ _ hL3
      go_wp2_with fail
      refine h2.mono ?_
      rintro e w2 ⟨rfl, hb2⟩
      have hz2 := hb2.size
      have b2 := b1.below hb2 (by omega)
      have z0 := b2.cell 0
      have z1 := b2.cell 1
      have z2 := b2.cell 2
      have z3 := b2.cell 3
      simp at z0 z1 z2 z3
      have f0 := b2.frozen 0
      have f1 := b2.frozen 1
      have f2 := b2.frozen 2
      have f3 := b2.frozen 3
      have hw2 : w.heap.size + 1 < w2.heap.size := by omega
      go_wp2_with fail
      refine bodyPost_ret (v := .tuple #[T.val zT (.slice none 0 0), .int .i64 t.right]) (by simp [results, Try.results22, go_sem, z0, z1, z2, z3, hw2, show zT.k = 0 from rfl, show zT.n = 0 from rfl, show zT.s = ⟨#[]⟩ from rfl]) rfl ⟨?_, none, 0, rfl, zl _⟩
      exact four_below (o := 0) ((below2 hb1).trans (hb2.mono (by omega))) (by omega) _ _ _ _

set_option maxRecDepth 100000 in
set_option maxHeartbeats 1600000 in
theorem refWrap_ok (t : T) (v : Value) (K : Option Addr) (kc : Nat) (ks : List Int) (w : World) (hL : Lies w w.heap.size t v) (hK : Keys w K kc ks) (h8 : ¬ 8 < ks.length) (hR : t.right = 0) :
    Calls Try.prog 22 #[T.val t v, .slice K ks.length kc] w (AnsL w (contW (t, 0) ks)) := by
  obtain ⟨A, c, xs, rfl, hk, hn', hs, hlc, hc, hr, hl⟩ := hL.open_
  have hmax := hK.2.2.1
  have hkc := hK.2.1
  unfold maxLen at hmax
  have hL2 := (hL.later (Nat.le_refl _) (.cells #[.int .i64 t.k, .int .u64 t.n, .string t.s, .slice A t.l.length c] 39)).later (Nat.le_refl _) (.cells #[.int .i64 0, .int .u64 0, .string ⟨#[]⟩, .slice none 0 0] 39)
  have h1 := refRight_any t _ _ hL2
  rw [hR] at h1
  simp only [World.size_alloc] at h1
  have h8i : ¬ (8 : Int) < (ks.length : Int) := by omega
  have k0 := (Blk.new w 39 #[.int .i64 t.k, .int .u64 t.n, .string t.s, .slice A t.l.length c]).alloc (.cells #[.int .i64 0, .int .u64 0, .string ⟨#[]⟩, .slice none 0 0] 39)
  have b0 := Blk.new (w.alloc (.cells #[.int .i64 t.k, .int .u64 t.n, .string t.s, .slice A t.l.length c] 39)) 39 #[.int .i64 0, .int .u64 0, .string ⟨#[]⟩, .slice none 0 0]
  have HF : Hid (contW (t, 0) (ks.drop 0) = contW (t, 0) ks) := lay rfl
  generalize contW (t, 0) ks = fin at HF ⊢
  clear h8 hR
  go_enter Try.func22, Try.ntmps22
  go_wp2_with fail
  refine h1.mono ?_
  rintro e w1 ⟨rfl, hb1⟩
  have hz1 := hb1.size
  simp only [World.size_alloc] at hz1
  have k1 := k0.below hb1 (by omega)
  have b1 := b0.below hb1 (by simp)
  simp only [World.size_alloc] at b1
  have hB1 := below2 hb1
  go_wp2_with fail
  go_loopw [22] (fun i wr => RWHead w fin ks i wr) (fun i _ => ks.length - (intOf i).toNat)
  case atStart => exact ⟨0, t, A, c, Nat.zero_le _, rfl, k1, b1, LiesX.of_old hL hB1, hB1, hz1, HF⟩
  case round =>
    obtain ⟨j, r, A2, c2, hj, rfl, hkb, hrb, hX, hB, hzr, hfin⟩ := hrel
    have z0 := hkb.cell 0
    have z1 := hkb.cell 1
    have z2 := hkb.cell 2
    have z3 := hkb.cell 3
    simp at z0 z1 z2 z3
    by_cases hlt : j < ks.length
    · obtain ⟨b, off, rfl, hbl, hkey, hk64⟩ := hK.at_ hB hlt
      have h2 := refSeal_any ks[j] r (.slice A2 r.l.length c2) wr hk64 hX.now
      have hnx : Hid (contW (sealT ks[j] r) (ks.drop (j + 1)) = fin) := lay (by rw [← hfin.out, List.drop_eq_getElem_cons hlt, contW_ok rfl])
      have hsz : (sealT ks[j] r).2 ≠ 0 → (sealT ks[j] r).1 = zT := seal_zero
      generalize sealT ks[j] r = r2 at h2 hnx hsz
      generalize ks[j] = kj at hkey hk64 h2
      clear hfin
      by_cases hE : r2.2 = 0
      · have hr2 : r2 = (r2.1, 0) := by rw [← hE]
        generalize r2.1 = q at hr2
        subst hr2
        clear hE hsz
        go_wp2_with fail
        refine h2.mono ?_
        rintro e w2 ⟨hb2, A3, c3, rfl, hH3, hF3⟩
        have hk2 := hkb.below hb2 (by omega)
        have q0 := hk2.cell 0
        have q1 := hk2.cell 1
        have q2 := hk2.cell 2
        have q3 := hk2.cell 3
        simp at q0 q1 q2 q3
        have e0 := hk2.frozen 0
        have e1 := hk2.frozen 1
        have e2 := hk2.frozen 2
        have e3 := hk2.frozen 3
        have hz2 := hb2.size
        have g1 : w.heap.size < w2.heap.size := by omega
        go_wp2_with fail
        exact ⟨rwhead_next (o := (j : Int) + 1) (r2 := q) hlt (by go_num) hkb hrb hB hzr hb2 hH3 hF3 hnx, by simp [intOf]; omega⟩
      · have hz := hsz hE
        have hfr : fin = r2 := by rw [← hnx.out, contW_bad hE]
        have hr2 : r2 = (zT, r2.2) := by rw [← hz]
        have d1 : (r2.2 != 0) = true := by simpa using hE
        subst hfr
        clear hsz hE hnx
        go_wp2_with fail
        refine h2.mono ?_
        rintro e w2 ⟨hb2, A3, c3, rfl, hH3, hF3⟩
        have hk2 := hrb.below hb2 (by omega)
        have q0 := hk2.cell 0
        have q1 := hk2.cell 1
        have q2 := hk2.cell 2
        have q3 := hk2.cell 3
        simp at q0 q1 q2 q3
        have e0 := hk2.frozen 0
        have e1 := hk2.frozen 1
        have e2 := hk2.frozen 2
        have e3 := hk2.frozen 3
        have hz2 := hb2.size
        have g1 : w.heap.size + 1 < w2.heap.size := by omega
        have hB2 := hB.trans (hb2.mono hB.size)
        have HR2 := lay hr2
        clear hr2
        go_wp2_with fail
        refine bodyPost_ret (v := .tuple #[T.val zT (.slice none 0 0), .int .i64 fin.2]) (by simp [results, Try.results22, go_sem, q0, q1, q2, q3, g1, show zT.k = 0 from rfl, show zT.n = 0 from rfl, show zT.s = ⟨#[]⟩ from rfl]) rfl ⟨?_, none, 0, by rw [HR2.out]; rfl, ?_⟩
        · exact (four_below (o := 0) hB2 (by omega) _ _ _ _).alloc (by rw [four_size]; omega) _
        · rw [hz]; exact lies_bare _ _ 0 0 ⟨#[]⟩ (by omega) (by omega) (Nat.zero_le _)
    · have hfr : fin = (r, 0) := by rw [← hfin.out, List.drop_of_length_le (by omega)]; rfl
      have hlt' : ¬ (j : Int) < (ks.length : Int) := by omega
      subst hfr
      clear hfin
      have x0 := hrb.cell 0
      have x1 := hrb.cell 1
      have x2 := hrb.cell 2
      have x3 := hrb.cell 3
      simp at x0 x1 x2 x3
      have e0 := hrb.frozen 0
      have e1 := hrb.frozen 1
      have e2 := hrb.frozen 2
      have e3 := hrb.frozen 3
      have hw1 : w.heap.size + 1 < wr.heap.size := by omega
      go_wp2_with fail
      refine bodyPost_ret (v := .tuple #[T.val r (.slice A2 r.l.length c2), .int .i64 0]) (by simp [results, Try.results22, go_sem, x0, x1, x2, x3, hw1]) rfl ⟨?_, A2, c2, rfl, ?_⟩
      · exact four_below (o := 0) hB (by omega) _ _ _ _
      · exact hX _ _ (by simp) fun p p1 p2 p3 => four_cell wr (w.heap.size + 1) 0 _ _ _ _ p (by omega)

theorem refWrap_any (t : T) (v : Value) (K : Option Addr) (kc : Nat) (ks : List Int) (w : World) (hL : Lies w w.heap.size t v) (hK : Keys w K kc ks) :
    Calls Try.prog 22 #[T.val t v, .slice K ks.length kc] w (AnsL w (wrapT t ks)) := by
  unfold wrapT
  by_cases hE : (begunT t ks.length).2 = 0
  · have hb : ¬ 8 < ks.length ∧ t.right = 0 := by
      unfold begunT at hE
      by_cases h8 : 8 < ks.length
      · rw [if_pos h8] at hE; exact absurd hE (by decide)
      · rw [if_neg h8] at hE
        by_cases hR : t.right = 0
        · exact ⟨h8, hR⟩
        · rw [if_pos hR] at hE; exact absurd hE hR
    have e : begunT t ks.length = (t, 0) := by
      unfold begunT
      rw [if_neg hb.1, if_neg (by simpa using hb.2)]
    rw [e]
    exact refWrap_ok t v K kc ks w hL hK hb.1 hb.2
  · rw [contW_bad hE]
    exact refWrap_bad t v K ks.length kc w hK.2.2.1 hL hE
end Go.Proofs.Ytjlglfjikfpboaa.boxes

/- Unwrap: the document's own. -/

namespace Go.Proofs.Ytjlglfjikfpboaa.boxes
set_option linter.unusedVariables false
set_option linter.unusedSimpArgs false
open Go.RowKit Go.Proofs.Ytjlglfjikfpboaa.base Go.Proofs.Ytjlglfjikfpboaa.tm Go.Proofs.Ytjlglfjikfpboaa.lies Go.Proofs.Ytjlglfjikfpboaa.rights Go.Proofs.Ytjlglfjikfpboaa.encs Go.Proofs.Ytjlglfjikfpboaa.copies Go.Proofs.Ytjlglfjikfpboaa.makes Go.Proofs.Ytjlglfjikfpboaa.reads Go.Proofs.Ytjlglfjikfpboaa.likes

/-- the document's Unwrap's loop, at its head -/
def RUHead (W : World) (fin : T × Int) (ks : List Int) (iv : Value) (wr : World) : Prop :=
  ∃ (m : Nat) (r : T) (A : Option Addr) (c : Nat) (z : Int), m ≤ ks.length ∧ iv = .int .i64 z ∧ z = (m : Int) - 1 ∧ Blk wr W.heap.size 39 #[.int .i64 r.k, .int .u64 r.n, .string r.s, .slice A r.l.length c] ∧
    Blk wr (W.heap.size + 1) 39 #[.int .i64 0, .int .u64 0, .string ⟨#[]⟩, .slice none 0 0] ∧ LiesX W wr r (.slice A r.l.length c) ∧ Below W.heap.size W wr ∧ W.heap.size + 2 ≤ wr.heap.size ∧ Hid (contU (r, 0) (ks.take m).reverse = fin)
theorem ruhead_next {W wr w2 : World} {fin : T × Int} {r : T} {r2 : T} {ks : List Int} {j : Nat} {A A3 : Option Addr} {c c3 : Nat} {o : Int} {ob : Obj} (hlt : j < ks.length) (ho : o = (j : Int) - 1)
    (hkb : Blk wr W.heap.size 39 #[.int .i64 r.k, .int .u64 r.n, .string r.s, .slice A r.l.length c]) (hrb : Blk wr (W.heap.size + 1) 39 #[.int .i64 0, .int .u64 0, .string ⟨#[]⟩, .slice none 0 0])
    (hB : Below W.heap.size W wr) (hzr : W.heap.size + 2 ≤ wr.heap.size) (hb2 : Below wr.heap.size wr w2) (hH3 : Held w2 wr.heap.size w2.heap.size r2.l (.slice A3 r2.l.length c3)) (hF3 : Fits r2)
    (hnx : Hid (contU (r2, 0) (ks.take j).reverse = fin)) :
    RUHead W fin ks (.int .i64 o) ((four w2 W.heap.size 0 (.int .i64 r2.k) (.int .u64 r2.n) (.string r2.s) (.slice A3 r2.l.length c3)).alloc ob) := by
  have hz2 := hb2.size
  refine ⟨j, r2, A3, c3, o, by omega, rfl, ho, (set4 (hkb.below hb2 (by omega)) _ _ _ _).alloc _, (far4 (hrb.below hb2 (by omega)) (by omega) _ _ _ _).alloc _, ?_, (four_below (hB.trans (hb2.mono hB.size)) (Nat.le_refl _) _ _ _ _).alloc (by rw [four_size]; omega) _, by rw [World.size_alloc, four_size]; omega, hnx⟩
  refine LiesX.of_held (lo := wr.heap.size) (hi := w2.heap.size) (hH3.move (Nat.le_refl _) (Nat.le_refl _) fun p p1 p2 => ?_) hF3 (by omega) (by rw [World.size_alloc, four_size]; omega)
  rw [World.cell?_alloc_lt _ _ _ (by rw [four_size]; exact p2), four_cell w2 W.heap.size 0 _ _ _ _ p (by omega)]

theorem below_alloc_drew {w w2 : World} {o : Obj} (h : Below (w.alloc o).drew.heap.size (w.alloc o).drew w2) : Below w.heap.size w w2 :=
  ((Below.refl _ _).alloc (Nat.le_refl _) o).drew.trans (h.mono (by show w.heap.size ≤ (w.alloc o).heap.size; simp))
theorem ruhead_nextB {W wr w2 : World} {fin : T × Int} {r : T} {r2 : T} {ks : List Int} {j : Nat} {A A3 : Option Addr} {c c3 : Nat} {o : Int} {lo : Obj} (hlt : j < ks.length) (ho : o = (j : Int) - 1)
    (hkb : Blk wr W.heap.size 39 #[.int .i64 r.k, .int .u64 r.n, .string r.s, .slice A r.l.length c]) (hrb : Blk wr (W.heap.size + 1) 39 #[.int .i64 0, .int .u64 0, .string ⟨#[]⟩, .slice none 0 0])
    (hB : Below W.heap.size W wr) (hzr : W.heap.size + 2 ≤ wr.heap.size) (hb2 : Below wr.heap.size wr w2) (hlt2 : wr.heap.size < w2.heap.size) (hH3 : Held w2 (wr.alloc lo).drew.heap.size w2.heap.size r2.l (.slice A3 r2.l.length c3)) (hF3 : Fits r2)
    (hnx : Hid (contU (r2, 0) (ks.take j).reverse = fin)) :
    RUHead W fin ks (.int .i64 o) (four (four w2 wr.heap.size 0 (.int .i64 r2.k) (.int .u64 r2.n) (.string r2.s) (.slice A3 r2.l.length c3)) W.heap.size 0 (.int .i64 r2.k) (.int .u64 r2.n) (.string r2.s) (.slice A3 r2.l.length c3)) := by
  have hlo : (wr.alloc lo).drew.heap.size = wr.heap.size + 1 := by show (wr.alloc lo).heap.size = _; simp
  rw [hlo] at hH3
  have hb4 := four_below (o := 0) hb2 (Nat.le_refl _) (.int .i64 r2.k) (.int .u64 r2.n) (.string r2.s) (.slice A3 r2.l.length c3)
  refine ⟨j, r2, A3, c3, o, by omega, rfl, ho, set4 (hkb.below hb4 (by omega)) _ _ _ _, far4 (hrb.below hb4 (by omega)) (by omega) _ _ _ _, ?_, four_below (hB.trans (hb4.mono hB.size)) (Nat.le_refl _) _ _ _ _, by rw [four_size, four_size]; omega, hnx⟩
  refine LiesX.of_held (lo := wr.heap.size + 1) (hi := w2.heap.size) (hH3.move (Nat.le_refl _) (Nat.le_refl _) fun p p1 p2 => ?_) hF3 (by omega) (by rw [four_size, four_size]; exact Nat.le_refl _)
  rw [four_cell _ W.heap.size 0 _ _ _ _ p (by omega), four_cell w2 wr.heap.size 0 _ _ _ _ p (by omega)]

end Go.Proofs.Ytjlglfjikfpboaa.boxes
