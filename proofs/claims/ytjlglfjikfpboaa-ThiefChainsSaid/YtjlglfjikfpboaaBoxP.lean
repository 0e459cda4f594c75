/- Boxes as plain data; a held list's terms; box.copied. -/
import Derived.Test.YtjlglfjikfpboaaTermF
import Derived.Test.YtjlglfjikfpboaaTermB
import Derived.Test.YtjlglfjikfpboaaTermC


namespace Go.Proofs.Ytjlglfjikfpboaa.boxes
set_option linter.unusedVariables false
set_option linter.unusedSimpArgs false
open Go.RowKit Go.Proofs.Ytjlglfjikfpboaa.base Go.Proofs.Ytjlglfjikfpboaa.tm Go.Proofs.Ytjlglfjikfpboaa.lies Go.Proofs.Ytjlglfjikfpboaa.rights Go.Proofs.Ytjlglfjikfpboaa.copies Go.Proofs.Ytjlglfjikfpboaa.makes Go.Proofs.Ytjlglfjikfpboaa.reads

def zT : T := .mk 0 0 ⟨#[]⟩ []
/-- the box under a key that holds a term -/
def boxT (k : Int) (t : T) : T := .mk 4 k ⟨#[]⟩ [t]
def sealT (k : Int) (t : T) : T × Int := if t.right ≠ 0 then (zT, t.right) else if (boxT k t).right ≠ 0 then (zT, (boxT k t).right) else (boxT k t, 0)
def openT (k : Int) (t : T) : T × Int := if t.right ≠ 0 then (zT, t.right) else if t.k ≠ 4 then (zT, 30) else if t.n ≠ k then (zT, 31) else (t.l.headD zT, 0)

/-- what a call leaves that answers a term and an error's number -/
def Ans (W : World) (r : T × Int) (e : Ending) (w' : World) : Prop :=
  Below W.heap.size W w' ∧ ∃ (A : Option Addr) (c : Nat), e = .returned (.tuple #[T.val r.1 (.slice A r.1.l.length c), .int .i64 r.2]) ∧ Held w' W.heap.size w'.heap.size r.1.l (.slice A r.1.l.length c) ∧ Fits r.1

theorem fits_z : Fits zT := by unfold Fits zT T.k T.n T.s; decide
theorem _root_.Go.Proofs.Ytjlglfjikfpboaa.lies.Lies.fits {w : World} {B : Nat} {t : T} {v : Value} (h : Lies w B t v) : Fits t := by
  obtain ⟨A, c, xs, _, h1, h2, h3, _⟩ := h.open_
  exact ⟨h1, h2, h3⟩

/-- a held list's slice lies within its blocks -/
theorem Held.at_ {w : World} {lo hi : Nat} {l : List T} {A : Option Addr} {n c : Nat} (h : Held w lo hi l (.slice A n c)) {j : Nat} (hj : j < l.length) :
    ∃ b off A' c', A = some ⟨b, off, none⟩ ∧ lo ≤ b ∧ b < hi ∧ w.cell? ⟨b, off + j * 4, none⟩ = some (.int .i64 l[j].k) ∧ w.cell? ⟨b, off + j * 4 + 1, none⟩ = some (.int .u64 l[j].n) ∧
      w.cell? ⟨b, off + j * 4 + 2, none⟩ = some (.string l[j].s) ∧ w.cell? ⟨b, off + j * 4 + 3, none⟩ = some (.slice A' l[j].l.length c') ∧ Held w lo hi l[j].l (.slice A' l[j].l.length c') ∧ Fits l[j] := by
  obtain ⟨A0, c0, e, hlc, h56, hh⟩ := h
  injection e with e1 e2 e3
  subst e1 e2 e3
  obtain ⟨xs, hr, hl⟩ := hh w hi (Nat.le_refl _) (fun _ _ _ => rfl)
  obtain ⟨b, off, A', c', rfl, hb, hv, q0, q1, q2, q3⟩ := at_cells hr hl hj
  have hlo : lo ≤ b := by
    rcases Nat.lt_or_ge b lo with hlt | hge
    · exfalso
      obtain ⟨ys, hr2, hl2⟩ := hh (w.setCell ⟨b, off + j * 4, none⟩ (.bool false)) hi (Nat.le_refl _) (fun p p1 _ => World.cell?_setCell_other _ _ _ _ (by rintro rfl; exact absurd p1 (by simp; omega)))
      obtain ⟨b2, off2, _, _, e2, _, _, z0, _⟩ := at_cells hr2 hl2 hj
      injection e2 with e2
      injection e2 with e3 e4 _
      subst e3 e4
      rw [World.cell?_setCell_same _ _ _ q0] at z0
      cases z0
    · exact hge
  refine ⟨b, off, A', c', rfl, hlo, hb, q0, q1, q2, q3, ?_, hv.fits⟩
  obtain ⟨A1, c1, xs1, e1, _, _, _, l1, m1, _⟩ := hv.open_
  injection e1 with e1 _ e3
  subst e1 e3
  refine ⟨_, _, rfl, l1, m1, fun w2 B2 hB ha => ?_⟩
  obtain ⟨ys, hr2, hl2⟩ := hh w2 B2 hB ha
  obtain ⟨b2, off2, A2, c2, e2, _, hv2, _, _, _, z3⟩ := at_cells hr2 hl2 hj
  injection e2 with e2
  injection e2 with e3 e4 _
  subst e3 e4
  rw [ha ⟨b, off + j * 4 + 3, none⟩ hlo hb, q3] at z3
  injection z3 with z3
  injection z3 with z3 _ z4
  subst z3 z4
  obtain ⟨A3, c3, xs3, e3, _, _, _, _, _, r3, l3⟩ := hv2.open_
  injection e3 with e3 _ e4
  subst e3 e4
  exact ⟨xs3, r3, l3⟩
/-- one term's cells in a new block: a list of one -/
theorem held_one {w : World} {t : T} {A : Option Addr} {c lo : Nat} (h : Held w lo w.heap.size t.l (.slice A t.l.length c)) (hF : Fits t) (hlo : lo ≤ w.heap.size) :
    Held (w.alloc (.cells #[.int .i64 t.k, .int .u64 t.n, .string t.s, .slice A t.l.length c] 39)) lo (w.alloc (.cells #[.int .i64 t.k, .int .u64 t.n, .string t.s, .slice A t.l.length c] 39)).heap.size [t] (.slice (some ⟨w.heap.size, 0, none⟩) 1 1) := by
  have hbk := Blk.new w 39 #[.int .i64 t.k, .int .u64 t.n, .string t.s, .slice A t.l.length c]
  refine ⟨_, _, rfl, Nat.le_refl _, by simp, fun w2 B2 hB ha => ?_⟩
  simp only [World.size_alloc] at hB ha
  obtain ⟨A1, c1, e, hl, h56, hh⟩ := h
  injection e with e1 _ e2
  subst e1 e2
  obtain ⟨xs, hr, hL⟩ := hh w2 B2 (by omega) fun p p1 p2 => by rw [ha p p1 (by omega), World.cell?_alloc_lt _ _ _ p2]
  refine ⟨[.int .i64 t.k, .int .u64 t.n, .string t.s, .slice A t.l.length c], fun j u hj => ⟨w.heap.size, 0, rfl, by omega, ?_⟩, _, [], rfl, Lies.mk hF.1 hF.2.1 hF.2.2 hl h56 hr hL, rfl⟩
  rw [ha ⟨w.heap.size, 0 + j, none⟩ hlo (by show w.heap.size < w.heap.size + 1; omega), Nat.zero_add, hbk.cell]
  simpa using hj
/-- a term's cells in a new block, as a slice of one -/
theorem liesS_one {w : World} {t : T} {A : Option Addr} {c B : Nat} (h : Lies w B t (.slice A t.l.length c)) (hB : B ≤ w.heap.size) :
    LiesS (w.alloc (.cells #[.int .i64 t.k, .int .u64 t.n, .string t.s, .slice A t.l.length c] 39)) (w.alloc (.cells #[.int .i64 t.k, .int .u64 t.n, .string t.s, .slice A t.l.length c] 39)).heap.size [t] (some ⟨w.heap.size, 0, none⟩) 1 :=
  ⟨[.int .i64 t.k, .int .u64 t.n, .string t.s, .slice A t.l.length c], Nat.le_refl _, by simp, (Blk.new w 39 #[.int .i64 t.k, .int .u64 t.n, .string t.s, .slice A t.l.length c]).rd (by simp), _, [], rfl, h.later hB _, rfl⟩

theorem below2 {w w2 : World} {o o' : Obj} (hb : Below (w.heap.size + 1 + 1) ((w.alloc o).alloc o') w2) : Below w.heap.size w w2 :=
  (((Below.refl _ _).alloc (Nat.le_refl _) o).alloc (by simp) o').trans (hb.mono (by omega))
theorem below3 {w w2 : World} {o o' o'' : Obj} (hb : Below (w.heap.size + 1 + 1 + 1) (((w.alloc o).alloc o').alloc o'') w2) : Below w.heap.size w w2 :=
  ((((Below.refl _ _).alloc (Nat.le_refl _) o).alloc (by simp) o').alloc (by simp; omega) o'').trans (hb.mono (by omega))
/-- the list of a row that Of made -/
theorem field_list (k n : Int) (s : ByteArray) (v : Value) (u : World) : (Instr.field 39 (.agg #[.int .i64 k, .int .u64 n, .string s, v]) 3).run Try.prog u = .ok v u := by kernel_rfl

set_option maxRecDepth 100000 in
set_option maxHeartbeats 400000 in
theorem copied_one (t : T) (v : Value) (w : World) (hL : Lies w w.heap.size t v) :
    Calls Try.prog 95 #[T.val t v] w fun e w' => Below w.heap.size w w' ∧ ∃ (A : Option Addr) (c : Nat), e = .returned (T.val t (.slice A t.l.length c)) ∧ Held w' w.heap.size w'.heap.size t.l (.slice A t.l.length c) := by
  obtain ⟨A, c, xs, rfl, hk, hn, hs, hlc, hc, hr, hl⟩ := hL.open_
  have hL2 := (hL.later (Nat.le_refl _) (.cells #[.int .i64 t.k, .int .u64 t.n, .string t.s, .slice A t.l.length c] 39)).later (Nat.le_refl _) (.cells #[.int .i64 0, .int .u64 0, .string ⟨#[]⟩, .slice none 0 0] 39)
  have hbk := (Blk.new (w.alloc (.cells #[.int .i64 t.k, .int .u64 t.n, .string t.s, .slice A t.l.length c] 39)) 39 #[.int .i64 0, .int .u64 0, .string ⟨#[]⟩, .slice none 0 0]).alloc (.cells #[.int .i64 t.k, .int .u64 t.n, .string t.s, .slice A t.l.length c] 39)
  simp only [World.size_alloc] at hbk
  have hcall := of_any [t] _ _ _ _ (liesS_one hL2 (Nat.le_refl _)) (Nat.le_refl _)
  simp only [List.length_singleton, World.size_alloc] at hcall
  go_enter Try.func95, Try.ntmps95
  go_wp2_with fail
  refine hcall.mono ?_
  rintro e w1 ⟨A1, c1, rfl, hh, hb⟩
  obtain ⟨b, off, A2, c2, rfl, hlo, hhi, q0, q1, q2, q3, hH, hF⟩ := Held.at_ hh (j := 0) (by simp)
  simp at q0 q1 q2 q3 hH
  have hB2 := hbk.below hb (by simp)
  have z0 := hB2.cell 0
  have z1 := hB2.cell 1
  have z2 := hB2.cell 2
  have z3 := hB2.cell 3
  simp at z0 z1 z2 z3
  have f0 := hB2.frozen 0
  have f1 := hB2.frozen 1
  have f2 := hB2.frozen 2
  have f3 := hB2.frozen 3
  have hfd := fun v u => field_list 5 0 ⟨#[]⟩ v u
  go_wp2_with fail
  refine bodyPost_ret (v := T.val t (.slice A2 t.l.length c2)) (by simp [results, Try.results95, go_sem, z0, z1, z2, z3]) rfl ⟨?_, A2, c2, rfl, ?_⟩
  · exact four_below (o := 0) (below3 hb) (by omega) _ _ _ _
  · exact hH.move (by omega) (by simp) fun p p1 p2 => four_cell w1 (w.heap.size + 1) 0 _ _ _ _ p (by omega)

set_option maxRecDepth 100000 in
set_option maxHeartbeats 400000 in
theorem seal_bad (k : Int) (t : T) (v : Value) (w : World) (hL : Lies w w.heap.size t v) (hR : t.right ≠ 0) :
    Calls Try.prog 60 #[.int .u64 k, T.val t v] w (Ans w (zT, t.right)) := by
  obtain ⟨A, c, xs, rfl, hk, hn, hs, hlc, hc, hr, hl⟩ := hL.open_
  have hL2 := (hL.later (Nat.le_refl _) (.cells #[.int .i64 t.k, .int .u64 t.n, .string t.s, .slice A t.l.length c] 39)).later (Nat.le_refl _) (.cells #[.int .i64 0, .int .u64 0, .string ⟨#[]⟩, .slice none 0 0] 39)
  have d1 : (t.right != 0) = true := by simpa using hR
  have h1 := adds.right_any t _ _ hL2
  simp only [World.size_alloc] at h1
  clear hR
  go_enter Try.func60, Try.ntmps60
  go_wp2_with fail
  refine h1.mono ?_
  rintro e w1 ⟨rfl, hb1⟩
  have hB := (Blk.new (w.alloc (.cells #[.int .i64 t.k, .int .u64 t.n, .string t.s, .slice A t.l.length c] 39)) 39 #[.int .i64 0, .int .u64 0, .string ⟨#[]⟩, .slice none 0 0]).below hb1 (by simp)
  simp only [World.size_alloc] at hB
  have z0 := hB.cell 0
  have z1 := hB.cell 1
  have z2 := hB.cell 2
  have z3 := hB.cell 3
  simp at z0 z1 z2 z3
  have f0 := hB.frozen 0
  have f1 := hB.frozen 1
  have f2 := hB.frozen 2
  have f3 := hB.frozen 3
  go_wp2_with fail
  refine bodyPost_ret (v := .tuple #[T.val zT (.slice none 0 0), .int .i64 t.right]) (by simp [results, Try.results60, go_sem, z0, z1, z2, z3, zT, T.k, T.n, T.s]) rfl ⟨?_, none, 0, rfl, Held.nil _ _ _, fits_z⟩
  exact four_below (o := 0) (below2 hb1) (by omega) _ _ _ _
end Go.Proofs.Ytjlglfjikfpboaa.boxes

/- box.Seal, box.Open: what they answer. -/

namespace Go.Proofs.Ytjlglfjikfpboaa.boxes
set_option linter.unusedVariables false
set_option linter.unusedSimpArgs false
open Go.RowKit Go.Proofs.Ytjlglfjikfpboaa.base Go.Proofs.Ytjlglfjikfpboaa.tm Go.Proofs.Ytjlglfjikfpboaa.lies Go.Proofs.Ytjlglfjikfpboaa.rights Go.Proofs.Ytjlglfjikfpboaa.copies Go.Proofs.Ytjlglfjikfpboaa.makes Go.Proofs.Ytjlglfjikfpboaa.reads

theorem fits_box {k : Int} {t : T} (hk : 0 ≤ k ∧ k < 18446744073709551616) : Fits (boxT k t) := by
  refine ⟨?_, hk, ?_⟩
  · show (-9223372036854775808 : Int) ≤ 4 ∧ (4 : Int) ≤ 9223372036854775807; omega
  · exact Nat.zero_le _
/-- a held list of one in a new block of a box's cells -/
theorem held_box {w : World} {k : Int} {t : T} {A : Option Addr} {c lo : Nat} (hk : 0 ≤ k ∧ k < 18446744073709551616) (h : Held w lo w.heap.size [t] (.slice A 1 c)) :
    Lies (w.alloc (.cells #[.int .i64 4, .int .u64 k, .string ⟨#[]⟩, .slice A 1 c] 39)) (w.alloc (.cells #[.int .i64 4, .int .u64 k, .string ⟨#[]⟩, .slice A 1 c] 39)).heap.size (boxT k t) (.slice A 1 c) := by
  have h2 : Held w lo w.heap.size (boxT k t).l (.slice A 1 c) := h
  have hF := fits_box (t := t) hk
  exact (h2.lies hF.1 hF.2.1 hF.2.2 (Nat.le_refl _)).later (Nat.le_refl _) _

theorem right_box (k : Int) (t : T) (v : Value) (w : World) (hL : Lies w w.heap.size (boxT k t) v) :
    Calls Try.prog 61 #[.agg #[.int .i64 4, .int .u64 k, .string ⟨#[]⟩, v]] w fun e w' => e = .returned (.int .i64 (boxT k t).right) ∧ Below w.heap.size w w' := adds.right_any _ _ _ hL

set_option maxRecDepth 100000 in
set_option maxHeartbeats 400000 in
theorem seal_more (k : Int) (t : T) (v : Value) (w : World) (hkk : 0 ≤ k ∧ k < 18446744073709551616) (hL : Lies w w.heap.size t v) (hR : t.right = 0) (hS : (boxT k t).right ≠ 0) :
    Calls Try.prog 60 #[.int .u64 k, T.val t v] w (Ans w (zT, (boxT k t).right)) := by
  obtain ⟨A, c, xs, rfl, hk, hn, hs, hlc, hc, hr, hl⟩ := hL.open_
  have hL2 := (hL.later (Nat.le_refl _) (.cells #[.int .i64 t.k, .int .u64 t.n, .string t.s, .slice A t.l.length c] 39)).later (Nat.le_refl _) (.cells #[.int .i64 0, .int .u64 0, .string ⟨#[]⟩, .slice none 0 0] 39)
  have d1 : ((boxT k t).right != 0) = true := by simpa using hS
  have h1 := adds.right_any t _ _ hL2
  rw [hR] at h1
  simp only [World.size_alloc] at h1
  clear hR hS
  go_enter Try.func60, Try.ntmps60
  go_wp2_with fail
  refine h1.mono ?_
  rintro e w1 ⟨rfl, hb1⟩
  have hz1 := hb1.size
  simp only [World.size_alloc] at hz1
  have hL3 := Lies.now (hL2.below (hb1.mono (by simp))) (by simp; omega)
  have hB := (Blk.new (w.alloc (.cells #[.int .i64 t.k, .int .u64 t.n, .string t.s, .slice A t.l.length c] 39)) 39 #[.int .i64 0, .int .u64 0, .string ⟨#[]⟩, .slice none 0 0]).below hb1 (by simp)
  have hC := ((Blk.new w 39 #[.int .i64 t.k, .int .u64 t.n, .string t.s, .slice A t.l.length c]).alloc (.cells #[.int .i64 0, .int .u64 0, .string ⟨#[]⟩, .slice none 0 0] 39)).below hb1 (by omega)
  simp only [World.size_alloc] at hB
  have y0 := hC.cell 0
  have y1 := hC.cell 1
  have y2 := hC.cell 2
  have y3 := hC.cell 3
  simp at y0 y1 y2 y3
  have h2 := of_any [t] _ _ _ _ (liesS_one hL3 (Nat.le_refl _)) (Nat.le_refl _)
  simp only [List.length_singleton, World.size_alloc] at h2
  go_wp2_with fail
  refine h2.mono ?_
  rintro e w2 ⟨A1, c1, rfl, hh, hb2⟩
  have hz2 := hb2.size
  simp only [World.size_alloc] at hz2
  have hfd := fun v u => field_list 5 0 ⟨#[]⟩ v u
  have h3 := right_box k t _ _ (held_box hkk hh)
  simp only [World.size_alloc] at h3
  go_wp2_with fail
  refine h3.mono ?_
  rintro e w3 ⟨rfl, hb3⟩
  have hz3 := hb3.size
  simp only [World.size_alloc] at hz3
  have hB3 := (((hB.alloc (.cells #[.int .i64 t.k, .int .u64 t.n, .string t.s, .slice A t.l.length c] 39)).below hb2 (by omega)).alloc (.cells #[.int .i64 4, .int .u64 k, .string ⟨#[]⟩, .slice A1 1 c1] 39)).below hb3 (by omega)
  have z0 := hB3.cell 0
  have z1 := hB3.cell 1
  have z2 := hB3.cell 2
  have z3 := hB3.cell 3
  simp at z0 z1 z2 z3
  have f0 := hB3.frozen 0
  have f1 := hB3.frozen 1
  have f2 := hB3.frozen 2
  have f3 := hB3.frozen 3
  have hw3 : w.heap.size + 1 < w3.heap.size := by omega
  have hBel : Below w.heap.size w w3 := (below2 hb1).trans ((((Below.refl _ _).alloc (by omega) _).trans (hb2.mono (by omega))).trans (((Below.refl _ _).alloc (by omega) _).trans (hb3.mono (by omega))))
  go_wp2_with fail
  refine bodyPost_ret (v := .tuple #[T.val zT (.slice none 0 0), .int .i64 (boxT k t).right]) (by simp [results, Try.results60, go_sem, z0, z1, z2, z3, hw3, show zT.k = 0 from rfl, show zT.n = 0 from rfl, show zT.s = ⟨#[]⟩ from rfl]) rfl ⟨?_, none, 0, rfl, Held.nil _ _ _, fits_z⟩
  exact four_below (o := 0) hBel (by omega) _ _ _ _

set_option maxRecDepth 100000 in
set_option maxHeartbeats 400000 in
theorem seal_ok (k : Int) (t : T) (v : Value) (w : World) (hkk : 0 ≤ k ∧ k < 18446744073709551616) (hL : Lies w w.heap.size t v) (hR : t.right = 0) (hS : (boxT k t).right = 0) :
    Calls Try.prog 60 #[.int .u64 k, T.val t v] w (Ans w (boxT k t, 0)) := by
  obtain ⟨A, c, xs, rfl, hk, hn, hs, hlc, hc, hr, hl⟩ := hL.open_
  have hL2 := (hL.later (Nat.le_refl _) (.cells #[.int .i64 t.k, .int .u64 t.n, .string t.s, .slice A t.l.length c] 39)).later (Nat.le_refl _) (.cells #[.int .i64 0, .int .u64 0, .string ⟨#[]⟩, .slice none 0 0] 39)
  have h1 := adds.right_any t _ _ hL2
  rw [hR] at h1
  simp only [World.size_alloc] at h1
  clear hR
  go_enter Try.func60, Try.ntmps60
  go_wp2_with fail
  refine h1.mono ?_
  rintro e w1 ⟨rfl, hb1⟩
  have hz1 := hb1.size
  simp only [World.size_alloc] at hz1
  have hL3 := Lies.now (hL2.below (hb1.mono (by simp))) (by simp; omega)
  have hB := (Blk.new (w.alloc (.cells #[.int .i64 t.k, .int .u64 t.n, .string t.s, .slice A t.l.length c] 39)) 39 #[.int .i64 0, .int .u64 0, .string ⟨#[]⟩, .slice none 0 0]).below hb1 (by simp)
  have hC := ((Blk.new w 39 #[.int .i64 t.k, .int .u64 t.n, .string t.s, .slice A t.l.length c]).alloc (.cells #[.int .i64 0, .int .u64 0, .string ⟨#[]⟩, .slice none 0 0] 39)).below hb1 (by omega)
  simp only [World.size_alloc] at hB
  have y0 := hC.cell 0
  have y1 := hC.cell 1
  have y2 := hC.cell 2
  have y3 := hC.cell 3
  simp at y0 y1 y2 y3
  have h2 := of_any [t] _ _ _ _ (liesS_one hL3 (Nat.le_refl _)) (Nat.le_refl _)
  simp only [List.length_singleton, World.size_alloc] at h2
  go_wp2_with fail
  refine h2.mono ?_
  rintro e w2 ⟨A1, c1, rfl, hh, hb2⟩
  have hz2 := hb2.size
  simp only [World.size_alloc] at hz2
  have hfd := fun v u => field_list 5 0 ⟨#[]⟩ v u
  have h3 := right_box k t _ _ (held_box hkk hh)
  rw [hS] at h3
  simp only [World.size_alloc] at h3
  clear hS
  go_wp2_with fail
  refine h3.mono ?_
  rintro e w3 ⟨rfl, hb3⟩
  have hz3 := hb3.size
  simp only [World.size_alloc] at hz3
  have hB3 := (((hB.alloc (.cells #[.int .i64 t.k, .int .u64 t.n, .string t.s, .slice A t.l.length c] 39)).below hb2 (by omega)).alloc (.cells #[.int .i64 4, .int .u64 k, .string ⟨#[]⟩, .slice A1 1 c1] 39)).below hb3 (by omega)
  have hX3 := (Blk.new w2 39 #[.int .i64 4, .int .u64 k, .string ⟨#[]⟩, .slice A1 1 c1]).below hb3 (by omega)
  have z0 := hB3.cell 0
  have z1 := hB3.cell 1
  have z2 := hB3.cell 2
  have z3 := hB3.cell 3
  have x0 := hX3.cell 0
  have x1 := hX3.cell 1
  have x2 := hX3.cell 2
  have x3 := hX3.cell 3
  simp at z0 z1 z2 z3 x0 x1 x2 x3
  have f0 := hB3.frozen 0
  have f1 := hB3.frozen 1
  have f2 := hB3.frozen 2
  have f3 := hB3.frozen 3
  have hw3 : w.heap.size + 1 < w3.heap.size := by omega
  have hBel : Below w.heap.size w w3 := (below2 hb1).trans ((((Below.refl _ _).alloc (by omega) _).trans (hb2.mono (by omega))).trans (((Below.refl _ _).alloc (by omega) _).trans (hb3.mono (by omega))))
  have hH3 : Held w3 (w1.heap.size + 1) w2.heap.size [t] (.slice A1 1 c1) := hh.move (Nat.le_refl _) (Nat.le_refl _) fun p _ p2 => by rw [hb3.cell (by omega), World.cell?_alloc_lt _ _ _ p2]
  go_wp2_with fail
  refine bodyPost_ret (v := .tuple #[T.val (boxT k t) (.slice A1 1 c1), .int .i64 0]) (by simp [results, Try.results60, go_sem, z0, z1, z2, z3, hw3, show (boxT k t).k = 4 from rfl, show (boxT k t).n = k from rfl, show (boxT k t).s = ⟨#[]⟩ from rfl]) rfl ⟨?_, A1, c1, rfl, ?_, fits_box hkk⟩
  · exact four_below (o := 0) hBel (by omega) _ _ _ _
  · exact Held.move (l := [t]) hH3 (by omega) (by simp; omega) fun p p1 p2 => four_cell w3 (w.heap.size + 1) 0 _ _ _ _ p (by omega)

theorem seal_any (k : Int) (t : T) (v : Value) (w : World) (hkk : 0 ≤ k ∧ k < 18446744073709551616) (hL : Lies w w.heap.size t v) :
    Calls Try.prog 60 #[.int .u64 k, T.val t v] w (Ans w (sealT k t)) := by
  unfold sealT
  by_cases h1 : t.right = 0
  · rw [if_neg (by simpa using h1)]
    by_cases h2 : (boxT k t).right = 0
    · rw [if_neg (by simpa using h2)]; exact seal_ok k t v w hkk hL h1 h2
    · rw [if_pos h2]; exact seal_more k t v w hkk hL h1 h2
  · rw [if_pos h1]; exact seal_bad k t v w hL h1
end Go.Proofs.Ytjlglfjikfpboaa.boxes

/- box.Open: what it answers. -/

namespace Go.Proofs.Ytjlglfjikfpboaa.boxes
set_option linter.unusedVariables false
set_option linter.unusedSimpArgs false
open Go.RowKit Go.Proofs.Ytjlglfjikfpboaa.base Go.Proofs.Ytjlglfjikfpboaa.tm Go.Proofs.Ytjlglfjikfpboaa.lies Go.Proofs.Ytjlglfjikfpboaa.rights Go.Proofs.Ytjlglfjikfpboaa.encs Go.Proofs.Ytjlglfjikfpboaa.copies Go.Proofs.Ytjlglfjikfpboaa.makes Go.Proofs.Ytjlglfjikfpboaa.reads

theorem head_get {l : List T} (h : 0 < l.length) : l.headD zT = l[0] := by
  cases l with
  | nil => simp at h
  | cons t l => rfl

theorem box_len {t : T} (hR : t.right = 0) (hK : t.k = 4) : t.l.length = 1 := by
  obtain ⟨_, _, h3⟩ := right_ok hR
  rw [shaped_eq, Bool.and_eq_true] at h3
  exact (one_kind h3.1).2.2.2.2.2.2.2 hK

end Go.Proofs.Ytjlglfjikfpboaa.boxes

/- The document's own Box, Seal, Open. -/

namespace Go.Proofs.Ytjlglfjikfpboaa.boxes
set_option linter.unusedVariables false
set_option linter.unusedSimpArgs false
open Go.RowKit Go.Proofs.Ytjlglfjikfpboaa.base Go.Proofs.Ytjlglfjikfpboaa.tm Go.Proofs.Ytjlglfjikfpboaa.lies Go.Proofs.Ytjlglfjikfpboaa.rights Go.Proofs.Ytjlglfjikfpboaa.encs Go.Proofs.Ytjlglfjikfpboaa.copies Go.Proofs.Ytjlglfjikfpboaa.makes Go.Proofs.Ytjlglfjikfpboaa.reads Go.Proofs.Ytjlglfjikfpboaa.copyT

set_option maxRecDepth 100000 in
set_option maxHeartbeats 400000 in
theorem refBox_any (k : Int) (t : T) (v : Value) (w : World) (hL : Lies w w.heap.size t v) :
    Calls Try.prog 94 #[.int .u64 k, T.val t v] w fun e w' => ∃ (A : Option Addr) (c : Nat), e = .returned (.agg #[.int .i64 4, .int .u64 k, .string ⟨#[]⟩, .slice A 1 c]) ∧ Held w' w.heap.size w'.heap.size [t] (.slice A 1 c) ∧ Below w.heap.size w w' := by
  obtain ⟨A, c, xs, rfl, hk, hn, hs, hlc, hc, hr, hl⟩ := hL.open_
  have hL2 := (hL.later (Nat.le_refl _) (.cells #[.int .i64 t.k, .int .u64 t.n, .string t.s, .slice A t.l.length c] 39)).later (Nat.le_refl _) (.cells #[.int .i64 0, .int .u64 0, .string ⟨#[]⟩, .slice none 0 0] 39)
  have h1 := copy_any t.size t _ _ (Nat.le_refl _) hL2
  unfold CPost at h1
  simp only [World.size_alloc] at h1
  go_enter Try.func94, Try.ntmps94
  go_wp2_with fail
  refine h1.mono ?_
  rintro e w1 ⟨hb1, A1, c1, rfl, hh⟩
  have hz1 := hb1.size
  simp only [World.size_alloc] at hz1
  have hB := (Blk.new (w.alloc (.cells #[.int .i64 t.k, .int .u64 t.n, .string t.s, .slice A t.l.length c] 39)) 39 #[.int .i64 0, .int .u64 0, .string ⟨#[]⟩, .slice none 0 0]).below hb1 (by simp)
  simp only [World.size_alloc] at hB
  have z0 := hB.cell 0
  have z1 := hB.cell 1
  have z2 := hB.cell 2
  have z3 := hB.cell 3
  simp at z0 z1 z2 z3
  have f0 := hB.frozen 0
  have f1 := hB.frozen 1
  have f2 := hB.frozen 2
  have f3 := hB.frozen 3
  have hw1 : w.heap.size + 1 < w1.heap.size := by omega
  go_wp2_with fail
  have hh4 : Held (four w1 (w.heap.size + 1) 0 (.int .i64 4) (.int .u64 k) (.string ⟨#[]⟩) (.slice (some ⟨w1.heap.size, 0, none⟩) 1 1)) (w.heap.size + 1 + 1) (four w1 (w.heap.size + 1) 0 (.int .i64 4) (.int .u64 k) (.string ⟨#[]⟩) (.slice (some ⟨w1.heap.size, 0, none⟩) 1 1)).heap.size t.l (.slice A1 t.l.length c1) :=
    hh.move (Nat.le_refl _) (by rw [four_size]; exact Nat.le_refl _) fun p p1 p2 => four_cell w1 (w.heap.size + 1) 0 _ _ _ _ p (by omega)
  have hone := held_one hh4 hL.fits (by rw [four_size]; omega)
  rw [four_size] at hone
  have hbe := four_below (o := 0) (below2 hb1) (show w.heap.size ≤ w.heap.size + 1 by omega) (.int .i64 4) (.int .u64 k) (.string ⟨#[]⟩) (.slice (some ⟨w1.heap.size, 0, none⟩) 1 1)
  refine bodyPost_ret (v := .agg #[.int .i64 4, .int .u64 k, .string ⟨#[]⟩, .slice (some ⟨w1.heap.size, 0, none⟩) 1 1]) (by simp [results, Try.results94, go_sem, z0, z1, z2, z3, hw1]) rfl ⟨_, 1, rfl, ?_, ?_⟩
  · exact hone.move (by omega) (Nat.le_refl _) fun _ _ _ => rfl
  · exact hbe.alloc (by rw [four_size]; omega) _

set_option maxRecDepth 100000 in
set_option maxHeartbeats 400000 in
theorem refSeal_bad (k : Int) (t : T) (v : Value) (w : World) (hL : Lies w w.heap.size t v) (hR : t.right ≠ 0) :
    Calls Try.prog 58 #[.int .u64 k, T.val t v] w (Ans w (zT, t.right)) := by
  obtain ⟨A, c, xs, rfl, hk, hn, hs, hlc, hc, hr, hl⟩ := hL.open_
  have hL2 := (hL.later (Nat.le_refl _) (.cells #[.int .i64 t.k, .int .u64 t.n, .string t.s, .slice A t.l.length c] 39)).later (Nat.le_refl _) (.cells #[.int .i64 0, .int .u64 0, .string ⟨#[]⟩, .slice none 0 0] 39)
  have d1 : (t.right != 0) = true := by simpa using hR
  have h1 := refRight_any t _ _ hL2
  simp only [World.size_alloc] at h1
  clear hR
  go_enter Try.func58, Try.ntmps58
  go_wp2_with fail
  refine h1.mono ?_
  rintro e w1 ⟨rfl, hb1⟩
  have hz1 := hb1.size
  simp only [World.size_alloc] at hz1
  have hL3 := Lies.now (hL2.below (hb1.mono (by simp))) (by simp; omega)
  have h2 := refRight_any t _ _ hL3
  have hB := (Blk.new (w.alloc (.cells #[.int .i64 t.k, .int .u64 t.n, .string t.s, .slice A t.l.length c] 39)) 39 #[.int .i64 0, .int .u64 0, .string ⟨#[]⟩, .slice none 0 0]).below hb1 (by simp)
  have hC := ((Blk.new w 39 #[.int .i64 t.k, .int .u64 t.n, .string t.s, .slice A t.l.length c]).alloc (.cells #[.int .i64 0, .int .u64 0, .string ⟨#[]⟩, .slice none 0 0] 39)).below hb1 (by omega)
  simp only [World.size_alloc] at hB
  have y0 := hC.cell 0
  have y1 := hC.cell 1
  have y2 := hC.cell 2
  have y3 := hC.cell 3
  simp at y0 y1 y2 y3
  go_wp2_with fail
  refine h2.mono ?_
  rintro e w2 ⟨rfl, hb2⟩
  have hz2 := hb2.size
  have hB2 := hB.below hb2 (by omega)
  have z0 := hB2.cell 0
  have z1 := hB2.cell 1
  have z2 := hB2.cell 2
  have z3 := hB2.cell 3
  simp at z0 z1 z2 z3
  have f0 := hB2.frozen 0
  have f1 := hB2.frozen 1
  have f2 := hB2.frozen 2
  have f3 := hB2.frozen 3
  have hw2 : w.heap.size + 1 < w2.heap.size := by omega
  go_wp2_with fail
  refine bodyPost_ret (v := .tuple #[T.val zT (.slice none 0 0), .int .i64 t.right]) (by simp [results, Try.results58, go_sem, z0, z1, z2, z3, hw2, show zT.k = 0 from rfl, show zT.n = 0 from rfl, show zT.s = ⟨#[]⟩ from rfl]) rfl ⟨?_, none, 0, rfl, Held.nil _ _ _, fits_z⟩
  exact four_below (o := 0) ((below2 hb1).trans (hb2.mono (by omega))) (by omega) _ _ _ _

theorem refRight_box (k : Int) (t : T) (v : Value) (w : World) (hL : Lies w w.heap.size (boxT k t) v) :
    Calls Try.prog 57 #[.agg #[.int .i64 4, .int .u64 k, .string ⟨#[]⟩, v]] w fun e w' => e = .returned (.int .i64 (boxT k t).right) ∧ Below w.heap.size w w' := refRight_any _ _ _ hL

set_option maxRecDepth 100000 in
set_option maxHeartbeats 400000 in
theorem refSeal_more (k : Int) (t : T) (v : Value) (w : World) (hkk : 0 ≤ k ∧ k < 18446744073709551616) (hL : Lies w w.heap.size t v) (hR : t.right = 0) (hS : (boxT k t).right ≠ 0) :
    Calls Try.prog 58 #[.int .u64 k, T.val t v] w (Ans w (zT, (boxT k t).right)) := by
  obtain ⟨A, c, xs, rfl, hk, hn, hs, hlc, hc, hr, hl⟩ := hL.open_
  have hL2 := (hL.later (Nat.le_refl _) (.cells #[.int .i64 t.k, .int .u64 t.n, .string t.s, .slice A t.l.length c] 39)).later (Nat.le_refl _) (.cells #[.int .i64 0, .int .u64 0, .string ⟨#[]⟩, .slice none 0 0] 39)
  have d1 : ((boxT k t).right != 0) = true := by simpa using hS
  have h1 := refRight_any t _ _ hL2
  rw [hR] at h1
  simp only [World.size_alloc] at h1
  clear hR hS
  go_enter Try.func58, Try.ntmps58
  go_wp2_with fail
  refine h1.mono ?_
  rintro e w1 ⟨rfl, hb1⟩
  have hz1 := hb1.size
  simp only [World.size_alloc] at hz1
  have hL3 := Lies.now (hL2.below (hb1.mono (by simp))) (by simp; omega)
  have hB := (Blk.new (w.alloc (.cells #[.int .i64 t.k, .int .u64 t.n, .string t.s, .slice A t.l.length c] 39)) 39 #[.int .i64 0, .int .u64 0, .string ⟨#[]⟩, .slice none 0 0]).below hb1 (by simp)
  have hC := ((Blk.new w 39 #[.int .i64 t.k, .int .u64 t.n, .string t.s, .slice A t.l.length c]).alloc (.cells #[.int .i64 0, .int .u64 0, .string ⟨#[]⟩, .slice none 0 0] 39)).below hb1 (by omega)
  simp only [World.size_alloc] at hB
  have y0 := hC.cell 0
  have y1 := hC.cell 1
  have y2 := hC.cell 2
  have y3 := hC.cell 3
  simp at y0 y1 y2 y3
  have h2 := refBox_any k t _ _ hL3
  go_wp2_with fail
  refine h2.mono ?_
  rintro e w2 ⟨A1, c1, rfl, hh, hb2⟩
  have hz2 := hb2.size
  have h3 := refRight_box k t _ _ (held_box hkk hh)
  simp only [World.size_alloc] at h3
  go_wp2_with fail
  refine h3.mono ?_
  rintro e w3 ⟨rfl, hb3⟩
  have hz3 := hb3.size
  simp only [World.size_alloc] at hz3
  have hX3 := (Blk.new w2 39 #[.int .i64 4, .int .u64 k, .string ⟨#[]⟩, .slice A1 1 c1]).below hb3 (by omega)
  have x0 := hX3.cell 0
  have x1 := hX3.cell 1
  have x2 := hX3.cell 2
  have x3 := hX3.cell 3
  simp at x0 x1 x2 x3
  have hL4 := Lies.now ((held_box hkk hh).below (hb3.mono (by simp))) (by simp; omega)
  have h4 := refRight_box k t _ _ hL4
  go_wp2_with fail
  refine h4.mono ?_
  rintro e w4 ⟨rfl, hb4⟩
  have hz4 := hb4.size
  have hB4 := (((hB.below hb2 (by omega)).alloc (.cells #[.int .i64 4, .int .u64 k, .string ⟨#[]⟩, .slice A1 1 c1] 39)).below hb3 (by omega)).below hb4 (by omega)
  have z0 := hB4.cell 0
  have z1 := hB4.cell 1
  have z2 := hB4.cell 2
  have z3 := hB4.cell 3
  simp at z0 z1 z2 z3
  have f0 := hB4.frozen 0
  have f1 := hB4.frozen 1
  have f2 := hB4.frozen 2
  have f3 := hB4.frozen 3
  have hw4 : w.heap.size + 1 < w4.heap.size := by omega
  have hBel : Below w.heap.size w w4 := (below2 hb1).trans ((hb2.mono (by omega)).trans ((((Below.refl _ _).alloc (by omega) _).trans (hb3.mono (by omega))).trans (hb4.mono (by omega))))
  go_wp2_with fail
  refine bodyPost_ret (v := .tuple #[T.val zT (.slice none 0 0), .int .i64 (boxT k t).right]) (by simp [results, Try.results58, go_sem, z0, z1, z2, z3, hw4, show zT.k = 0 from rfl, show zT.n = 0 from rfl, show zT.s = ⟨#[]⟩ from rfl]) rfl ⟨?_, none, 0, rfl, Held.nil _ _ _, fits_z⟩
  exact four_below (o := 0) hBel (by omega) _ _ _ _

set_option maxRecDepth 100000 in
set_option maxHeartbeats 400000 in
theorem refSeal_ok (k : Int) (t : T) (v : Value) (w : World) (hkk : 0 ≤ k ∧ k < 18446744073709551616) (hL : Lies w w.heap.size t v) (hR : t.right = 0) (hS : (boxT k t).right = 0) :
    Calls Try.prog 58 #[.int .u64 k, T.val t v] w (Ans w (boxT k t, 0)) := by
  obtain ⟨A, c, xs, rfl, hk, hn, hs, hlc, hc, hr, hl⟩ := hL.open_
  have hL2 := (hL.later (Nat.le_refl _) (.cells #[.int .i64 t.k, .int .u64 t.n, .string t.s, .slice A t.l.length c] 39)).later (Nat.le_refl _) (.cells #[.int .i64 0, .int .u64 0, .string ⟨#[]⟩, .slice none 0 0] 39)
  have h1 := refRight_any t _ _ hL2
  rw [hR] at h1
  simp only [World.size_alloc] at h1
  clear hR
  go_enter Try.func58, Try.ntmps58
  go_wp2_with fail
  refine h1.mono ?_
  rintro e w1 ⟨rfl, hb1⟩
  have hz1 := hb1.size
  simp only [World.size_alloc] at hz1
  have hL3 := Lies.now (hL2.below (hb1.mono (by simp))) (by simp; omega)
  have hB := (Blk.new (w.alloc (.cells #[.int .i64 t.k, .int .u64 t.n, .string t.s, .slice A t.l.length c] 39)) 39 #[.int .i64 0, .int .u64 0, .string ⟨#[]⟩, .slice none 0 0]).below hb1 (by simp)
  have hC := ((Blk.new w 39 #[.int .i64 t.k, .int .u64 t.n, .string t.s, .slice A t.l.length c]).alloc (.cells #[.int .i64 0, .int .u64 0, .string ⟨#[]⟩, .slice none 0 0] 39)).below hb1 (by omega)
  simp only [World.size_alloc] at hB
  have y0 := hC.cell 0
  have y1 := hC.cell 1
  have y2 := hC.cell 2
  have y3 := hC.cell 3
  simp at y0 y1 y2 y3
  have h2 := refBox_any k t _ _ hL3
  go_wp2_with fail
  refine h2.mono ?_
  rintro e w2 ⟨A1, c1, rfl, hh, hb2⟩
  have hz2 := hb2.size
  have h3 := refRight_box k t _ _ (held_box hkk hh)
  rw [hS] at h3
  simp only [World.size_alloc] at h3
  clear hS
  go_wp2_with fail
  refine h3.mono ?_
  rintro e w3 ⟨rfl, hb3⟩
  have hz3 := hb3.size
  simp only [World.size_alloc] at hz3
  have hX3 := (Blk.new w2 39 #[.int .i64 4, .int .u64 k, .string ⟨#[]⟩, .slice A1 1 c1]).below hb3 (by omega)
  have hB3 := ((hB.below hb2 (by omega)).alloc (.cells #[.int .i64 4, .int .u64 k, .string ⟨#[]⟩, .slice A1 1 c1] 39)).below hb3 (by omega)
  have x0 := hX3.cell 0
  have x1 := hX3.cell 1
  have x2 := hX3.cell 2
  have x3 := hX3.cell 3
  have z0 := hB3.cell 0
  have z1 := hB3.cell 1
  have z2 := hB3.cell 2
  have z3 := hB3.cell 3
  simp at z0 z1 z2 z3 x0 x1 x2 x3
  have f0 := hB3.frozen 0
  have f1 := hB3.frozen 1
  have f2 := hB3.frozen 2
  have f3 := hB3.frozen 3
  have hw3 : w.heap.size + 1 < w3.heap.size := by omega
  have hBel : Below w.heap.size w w3 := (below2 hb1).trans ((hb2.mono (by omega)).trans (((Below.refl _ _).alloc (by omega) _).trans (hb3.mono (by omega))))
  have hH3 : Held w3 w1.heap.size w2.heap.size [t] (.slice A1 1 c1) := hh.move (Nat.le_refl _) (Nat.le_refl _) fun p _ p2 => by rw [hb3.cell (by omega), World.cell?_alloc_lt _ _ _ p2]
  go_wp2_with fail
  refine bodyPost_ret (v := .tuple #[T.val (boxT k t) (.slice A1 1 c1), .int .i64 0]) (by simp [results, Try.results58, go_sem, z0, z1, z2, z3, hw3, show (boxT k t).k = 4 from rfl, show (boxT k t).n = k from rfl, show (boxT k t).s = ⟨#[]⟩ from rfl]) rfl ⟨?_, A1, c1, rfl, ?_, fits_box hkk⟩
  · exact four_below (o := 0) hBel (by omega) _ _ _ _
  · exact Held.move (l := [t]) hH3 (by omega) (by simp; omega) fun p p1 p2 => four_cell w3 (w.heap.size + 1) 0 _ _ _ _ p (by omega)

theorem refSeal_any (k : Int) (t : T) (v : Value) (w : World) (hkk : 0 ≤ k ∧ k < 18446744073709551616) (hL : Lies w w.heap.size t v) :
    Calls Try.prog 58 #[.int .u64 k, T.val t v] w (Ans w (sealT k t)) := by
  unfold sealT
  by_cases h1 : t.right = 0
  · rw [if_neg (by simpa using h1)]
    by_cases h2 : (boxT k t).right = 0
    · rw [if_neg (by simpa using h2)]; exact refSeal_ok k t v w hkk hL h1 h2
    · rw [if_pos h2]; exact refSeal_more k t v w hkk hL h1 h2
  · rw [if_pos h1]; exact refSeal_bad k t v w hL h1
end Go.Proofs.Ytjlglfjikfpboaa.boxes

/- The document's own Open. -/

namespace Go.Proofs.Ytjlglfjikfpboaa.boxes
set_option linter.unusedVariables false
set_option linter.unusedSimpArgs false
open Go.RowKit Go.Proofs.Ytjlglfjikfpboaa.base Go.Proofs.Ytjlglfjikfpboaa.tm Go.Proofs.Ytjlglfjikfpboaa.lies Go.Proofs.Ytjlglfjikfpboaa.rights Go.Proofs.Ytjlglfjikfpboaa.encs Go.Proofs.Ytjlglfjikfpboaa.copies Go.Proofs.Ytjlglfjikfpboaa.makes Go.Proofs.Ytjlglfjikfpboaa.reads Go.Proofs.Ytjlglfjikfpboaa.copyT

end Go.Proofs.Ytjlglfjikfpboaa.boxes
