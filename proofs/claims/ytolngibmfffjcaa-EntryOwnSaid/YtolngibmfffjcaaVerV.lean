/- The walk of EntryOwn: what is written over one answer shows in no other one, nor in what was handed in. -/
import Derived.Test.YtolngibmfffjcaaVerZ


namespace Go.Proofs.Ytolngibmfffjcaa.vers
set_option linter.unusedVariables false
set_option linter.unusedSimpArgs false
open Go.RowKit Go.Proofs.Ytolngibmfffjcaa.base Go.Proofs.Ytolngibmfffjcaa.quotas

/-- a row of the call's own, whatever its cells hold -/
def RowO (lo : Nat) (w : World) (v : Value) (n : Nat) : Prop := ∃ xs, w.ownsRow lo 39 3 v n xs
theorem OwnV.row {lo : Nat} {w : World} {l : List V} {v : Value} (h : OwnV lo w l v) : RowO lo w v l.length := ⟨_, h.1⟩
theorem RowO.set {lo : Nat} {w : World} {v : Value} {n : Nat} (h : RowO lo w v n) (g i : Nat) (u : Value) : RowO lo (w.setCell ⟨g, i, none⟩ u) v n := by
  obtain ⟨xs, h⟩ := h
  by_cases hv : v.ownBlock = some g
  · rcases h.2 with ⟨rfl, _⟩ | ⟨g', cap, cur, rfl, _⟩
    · simp [Value.ownBlock] at hv
    · simp [Value.ownBlock] at hv
      subst hv
      exact ⟨_, (h.stored i u).1⟩
  · refine ⟨xs, h.kept (grown_set w g i u) (.inr fun e => hv e)⟩
theorem RowO.next {lo : Nat} {w w' : World} {v : Value} {n : Nat} (h : RowO lo w v n) (hb : Below w.heap.size w w') : RowO lo w' v n := by
  obtain ⟨xs, h⟩ := h
  refine ⟨xs, h.kept (row := none) (grown_below (World.grownBy.refl w none) hb) ?_⟩
  cases hv : v.ownBlock with
  | none => exact .inl rfl
  | some k => exact .inr fun e => by cases e
theorem RowO.kept {lo : Nat} {w w' : World} {v : Value} {n : Nat} (h : RowO lo w v n) {row : Option Nat} (hg : w.grownBy w' row) (hr : ∀ g, row = some g → v.ownBlock ≠ some g) : RowO lo w' v n := by
  obtain ⟨xs, h⟩ := h
  refine ⟨xs, h.kept hg ?_⟩
  cases hv : v.ownBlock with
  | none => exact .inl rfl
  | some k => exact .inr fun e => hr k e.symm hv
theorem RowO.alloc {lo : Nat} {w : World} {v : Value} {n : Nat} (h : RowO lo w v n) (ob : Obj) : RowO lo (w.alloc ob) v n := h.next ((Below.refl _ _).alloc (Nat.le_refl _) _)
theorem RowO.form {lo : Nat} {w : World} {A : Option Addr} {n c : Nat} (h : RowO lo w (.slice A n c) n) (hn : 0 < n) : ∃ g, A = some ⟨g, 0, none⟩ ∧ n ≤ c := by
  obtain ⟨xs, h⟩ := h
  rcases h.2 with ⟨e, h0⟩ | ⟨g, cap, cur, e, _, _, hc, _⟩
  · omega
  · cases e
    exact ⟨g, rfl, hc⟩
theorem RowO.cell {lo : Nat} {w : World} {g n c : Nat} (h : RowO lo w (.slice (some ⟨g, 0, none⟩) n c) n) {j : Nat} (hj : j < n * 3) : (∃ u, w.cell? ⟨g, j, none⟩ = some u) ∧ w.frozen? ⟨g, j, none⟩ = false := by
  obtain ⟨xs, h⟩ := h
  refine ⟨⟨xs[j]'(by rw [h.1]; exact hj), ?_⟩, h.frozenAt j⟩
  rw [h.cellAt j hj, List.getElem?_eq_getElem]

/-- blocks that may be written over: those of four answered lists, and new ones -/
def Off (n1 n2 n3 n4 n5 g : Nat) : Prop := n1 ≤ g ∧ g ≠ n2 ∧ (g < n2 ∨ n3 ≤ g) ∧ (g < n4 ∨ n5 ≤ g)
/-- the other blocks are as they were -/
def Zn (n1 n2 n3 n4 n5 : Nat) (w6 wr : World) : Prop :=
  (∀ p : Addr, (p.block < n1 ∨ (n2 < p.block ∧ p.block < n3) ∨ (n4 ≤ p.block ∧ p.block < n5)) → wr.cell? p = w6.cell? p) ∧ n5 ≤ wr.heap.size
def Nums (n1 n2 n3 n4 n5 : Nat) : Prop := n1 ≤ n2 ∧ n2 < n3 ∧ n3 ≤ n4 ∧ n4 < n5
section
variable {n1 n2 n3 n4 n5 : Nat} {w6 wr w' : World}
theorem Zn.refl (h : n5 ≤ w6.heap.size) : Zn n1 n2 n3 n4 n5 w6 w6 := ⟨fun _ _ => rfl, h⟩
theorem Zn.next (hn : Nums n1 n2 n3 n4 n5) (h : Zn n1 n2 n3 n4 n5 w6 wr) (hb : Below wr.heap.size wr w') : Zn n1 n2 n3 n4 n5 w6 w' := by
  obtain ⟨k1, k2, k3, k4⟩ := hn
  refine ⟨fun p hp => ?_, Nat.le_trans h.2 hb.size⟩
  have := h.2
  rw [hb.cell (by omega), h.1 p hp]
theorem Zn.grown (hn : Nums n1 n2 n3 n4 n5) (h : Zn n1 n2 n3 n4 n5 w6 wr) {row : Option Nat} (hg : wr.grownBy w' row) (hr : ∀ g, row = some g → Off n1 n2 n3 n4 n5 g) : Zn n1 n2 n3 n4 n5 w6 w' := by
  obtain ⟨k1, k2, k3, k4⟩ := hn
  refine ⟨fun p hp => ?_, Nat.le_trans h.2 hg.size⟩
  have := h.2
  rw [hg.cell_far p (by omega) (fun e => by have := hr p.block e.symm; unfold Off at this; omega), h.1 p hp]
theorem Zn.set (h : Zn n1 n2 n3 n4 n5 w6 wr) {g : Nat} (hg : n1 ≤ g ∧ (g ≤ n2 ∨ n3 ≤ g) ∧ (g < n4 ∨ n5 ≤ g)) (i : Nat) (u : Value) : Zn n1 n2 n3 n4 n5 w6 (wr.setCell ⟨g, i, none⟩ u) := by
  refine ⟨fun p hp => ?_, by simpa using h.2⟩
  rw [World.cell?_setCell_far _ _ _ _ (by simp only; intro e; omega), h.1 p hp]
theorem Off.set {g : Nat} (h : Off n1 n2 n3 n4 n5 g) : n1 ≤ g ∧ (g ≤ n2 ∨ n3 ≤ g) ∧ (g < n4 ∨ n5 ≤ g) := by
  obtain ⟨h1, h2, h3, h4⟩ := h
  omega
end
/-- a list that lies where nothing is written -/
theorem Vs.zone {w6 wr : World} {B : Nat} {l : List V} {A : Option Addr} {c : Nat} (h : Vs w6 B l A c) (lo : Nat) (hlo : ∀ b off, A = some ⟨b, off, none⟩ → lo ≤ b) (hz : ∀ p : Addr, lo ≤ p.block → p.block < B → wr.cell? p = w6.cell? p) : Vs wr B l A c := by
  obtain ⟨h1, h2, h3, h4, h5⟩ := h
  refine ⟨h1, h2, h3, fun j u hj => ?_, h5⟩
  obtain ⟨b, off, e, hB, hc⟩ := h4 j u hj
  exact ⟨b, off, e, hB, (hz ⟨b, off + j, none⟩ (hlo b off e) hB).trans hc⟩
theorem dec_self {s : ByteArray} {l : List V} : (decide (s = s) && decide (l = l)) = true := by rw [decide_eq_true rfl, decide_eq_true rfl]; rfl

/-- a round's head of a loop that writes over a list -/
def WHead (n1 n2 n3 n4 n5 : Nat) (w w6 : World) (va vl vc vm : Value) (na nl nc nm n : Nat) (x : Value) (wr : World) : Prop :=
  ∃ j : Nat, j ≤ n ∧ x = .int .i64 j ∧ Zn n1 n2 n3 n4 n5 w6 wr ∧ (RowO n1 wr va na ∧ RowO n1 wr vl nl ∧ RowO n3 wr vc nc ∧ RowO n3 wr vm nm) ∧ Below w.heap.size w wr ∧ wr.cell? ⟨n2, 1, none⟩ = some va
theorem WHead.step {n1 n2 n3 n4 n5 : Nat} {w w6 : World} {va vl vc vm : Value} {na nl nc nm n j : Nat} {wr : World} (hw : w.heap.size ≤ n1) (hlt : j < n) (hz : Zn n1 n2 n3 n4 n5 w6 wr) (hr : RowO n1 wr va na ∧ RowO n1 wr vl nl ∧ RowO n3 wr vc nc ∧ RowO n3 wr vm nm) (hb : Below w.heap.size w wr)
    (hc : wr.cell? ⟨n2, 1, none⟩ = some va) {g : Nat} (hg : Off n1 n2 n3 n4 n5 g) (i : Nat) (u : Value) : WHead n1 n2 n3 n4 n5 w w6 va vl vc vm na nl nc nm n (.int .i64 ((j : Int) + 1)) (wr.setCell ⟨g, i, none⟩ u) := by
  refine ⟨j + 1, hlt, by go_num, hz.set hg.set i u, ⟨hr.1.set g i u, hr.2.1.set g i u, hr.2.2.1.set g i u, hr.2.2.2.set g i u⟩, hb.setCell (Nat.le_trans hw hg.1) u, ?_⟩
  rw [World.cell?_setCell_far _ _ _ _ (by simp only; intro e; exact hg.2.1 e)]
  exact hc

set_option maxRecDepth 100000 in
set_option maxHeartbeats 4000000 in
theorem law_own (a b c d e f h : Int) (s : ByteArray) (l : List V) (A : Option Addr) (cap : Nat) (v t : ByteArray) (w : World) (hv : Vs w w.heap.size l A cap) (hfit : v.size ≤ maxLen ∧ t.size ≤ maxLen) :
    Calls Try.prog 9 #[.agg #[.int .i64 a, .int .i64 b, .int .i64 c, .int .i64 d, .int .i64 e, .int .i64 f, .int .i64 h], .agg #[.string s, .slice A l.length cap], .string v, .string t] w fun x w' => x = .returned (.bool true) ∧ Below w.heap.size w w' := by
  have E0 := Bx.new w a b c d e f h s (.slice A l.length cap)
  have h0 := fun wr (hb : Below w.heap.size w wr) => copy_any s l A cap wr (hv.at_world hb)
  have h1 := fun wr (hb : Below w.heap.size w wr) => refPut_any a b c d e f h s l A cap v t wr (hv.at_world hb) hfit
  have h2 := fun wr (hb : Below w.heap.size w wr) => put_own a b c d e f h s l A cap v t wr (hv.at_world hb) hfit
  have h3 := fun wr (hb : Below w.heap.size w wr) => over_own a b c d e f h s l A cap v t wr (hv.at_world hb) hfit
  have hpl : (addP a b c d e f h s l v t e).k.length ≤ l.length + 1 ∧ (addP a b c d e f h s l v t e).d.length ≤ l.length := by
    rw [addP_next]
    split
    · exact ⟨Nat.zero_le _, Nat.zero_le _⟩
    · simp
      omega
  have hl4 : (addP a b c d e f h s l v t e).k.length ≤ 5 ∧ (addP a b c d e f h s l v t e).d.length ≤ 4 := by
    by_cases hz : (nextP a b c d e f h s l v t).2 = 0
    · have := (nbad_zero (nextP_zero hz).1).2.1
      omega
    · rw [addP_next, if_pos hz]
      exact ⟨Nat.zero_le _, Nat.zero_le _⟩
  clear hpl
  generalize addP a b c d e f h s l v t e = p at h1 h2 hl4
  generalize addP a b c d e f h s l v t 1 = q at h3
  clear hfit
  go_enter Try.func9, Try.ntmps9
  go_wp2_with fail
  refine (h0 _ E0.below).mono ?_
  rintro z w1 ⟨u1, rfl, hu1, hb1⟩
  have hsz0 := E0.2.2
  have hs01 := hb1.size
  have G1 := E0.next hb1
  clear E0 h0 hb1
  obtain ⟨A1, k1, rfl, hu1v, hu1l⟩ := hu1.vs
  clear hu1
  obtain ⟨⟨⟨c0, c1, c2, c3, c4, c5, c6⟩, l1, l2, b1⟩, ⟨e0, e1⟩, l3⟩ := id G1
  go_wp2_with fail
  clear c0 c1 c2 c3 c4 c5 c6 l1 l2 b1 e0 e1 l3
  have F1 := G1.alloc (.cells #[.string s, .slice A1 l.length k1] 26)
  have D1 : Below w1.heap.size w1 (w1.alloc (.cells #[.string s, .slice A1 l.length k1] 26)) := (Below.refl _ _).alloc (Nat.le_refl _) _
  have X1 := EBox.new w1 s (.slice A1 l.length k1)
  clear G1
  refine (h1 _ F1.below).mono ?_
  rintro z w2 ⟨u2, y2, rfl, hb2, hu2, _⟩
  have hs12 := hb2.size
  have G2 := F1.next hb2
  have D1 := seq D1 hb2
  have X1 := X1.next hb2
  clear F1 h1 hb2
  obtain ⟨A2, k2, rfl, hu2v, hu2l⟩ := hu2
  obtain ⟨⟨⟨c0, c1, c2, c3, c4, c5, c6⟩, l1, l2, b1⟩, ⟨e0, e1⟩, l3⟩ := id G2
  obtain ⟨DY, dn, dk, rfl⟩ : ∃ DY dn dk, y2 = .slice DY dn dk := by
    rename_i hy
    obtain ⟨DY, dk, rfl, _⟩ := hy
    exact ⟨_, _, _, rfl⟩
  go_wp2_with fail
  clear c0 c1 c2 c3 c4 c5 c6 l1 l2 b1 e0 e1 l3
  have OB2 : Obj := .cells #[.string p.s, .slice A2 p.k.length k2, .slice DY dn dk, .int .i64 p.bad] 33
  have D2 : Below w2.heap.size w2 (w2.alloc (.cells #[.string p.s, .slice A2 p.k.length k2, .slice DY dn dk, .int .i64 p.bad] 33)) := (Below.refl _ _).alloc (Nat.le_refl _) _
  have F2 := G2.next D2
  have D1 := seq D1 D2
  have X1 := X1.next D2
  have X2 := ABox.new w2 p.s (.slice A2 p.k.length k2) (.slice DY dn dk) p.bad
  clear G2 OB2
  refine (h2 _ F2.below).mono ?_
  rintro z w3 ⟨u3, y3, rfl, hb3, hu3, hy3, hap3⟩
  have hs23 := hb3.size
  have G3 := F2.next hb3
  have D1 := seq D1 hb3
  have D2 := seq D2 hb3
  have X1 := X1.next hb3
  have X2 := X2.next hb3
  clear F2 hb3
  obtain ⟨A3, n3, k3, rfl, hn3⟩ := hu3.shape
  obtain ⟨DA3, dn3, dk3, rfl, hdn3⟩ := hy3.shape
  obtain ⟨⟨⟨c0, c1, c2, c3, c4, c5, c6⟩, l1, l2, b1⟩, ⟨e0, e1⟩, l3⟩ := id G3
  go_wp2_with fail
  clear c0 c1 c2 c3 c4 c5 c6 l1 l2 b1 e0 e1 l3
  have D3 : Below w3.heap.size w3 (w3.alloc (.cells #[.string p.s, .slice A3 n3 k3] 26)) := (Below.refl _ _).alloc (Nat.le_refl _) _
  have X3 := Blk.new w3 26 #[.string p.s, .slice A3 n3 k3]
  have F3 := G3.next D3
  have D1 := seq D1 D3
  have D2 := seq D2 D3
  have X1 := X1.next D3
  have X2 := X2.next D3
  clear G3
  refine (h2 _ F3.below).mono ?_
  rintro z w4 ⟨u4, y4, rfl, hb4, hu4, hy4, _⟩
  have hs34 := hb4.size
  have G4 := F3.next hb4
  have D1 := seq D1 hb4
  have D2 := seq D2 hb4
  have D3 := seq D3 hb4
  have X1 := X1.next hb4
  have X2 := X2.next hb4
  have X3 := X3.below hb4 X3.lt
  clear F3 hb4 h2
  obtain ⟨A4, k4, rfl, hu4v, hu4l⟩ := hu4.vs
  obtain ⟨DA4, dn4, dk4, rfl, hdn4⟩ := hy4.shape
  clear hu4 hy4 hdn4
  obtain ⟨⟨⟨c0, c1, c2, c3, c4, c5, c6⟩, l1, l2, b1⟩, ⟨e0, e1⟩, l3⟩ := id G4
  go_wp2_with fail
  clear c0 c1 c2 c3 c4 c5 c6 l1 l2 b1 e0 e1 l3
  have D4 : Below w4.heap.size w4 (w4.alloc (.cells #[.string p.s, .slice A4 p.k.length k4] 26)) := (Below.refl _ _).alloc (Nat.le_refl _) _
  have X4 := EBox.new w4 p.s (.slice A4 p.k.length k4)
  have F4 := G4.next D4
  have D1 := seq D1 D4
  have D2 := seq D2 D4
  have D3 := seq D3 D4
  have X1 := X1.next D4
  have X2 := X2.next D4
  have X3 := X3.below D4 X3.lt
  clear G4
  refine (h3 _ F4.below).mono ?_
  rintro z w5 ⟨u5, y5, rfl, hb5, hu5, hy5, _⟩
  have hs45 := hb5.size
  have G5 := F4.next hb5
  have D1 := seq D1 hb5
  have D2 := seq D2 hb5
  have D3 := seq D3 hb5
  have D4 := seq D4 hb5
  have X1 := X1.next hb5
  have X2 := X2.next hb5
  have X3 := X3.below hb5 X3.lt
  have X4 := X4.next hb5
  clear F4 hb5 h3
  obtain ⟨A5, n5, k5, rfl, hn5⟩ := hu5.shape
  obtain ⟨DA5, dn5, dk5, rfl, hdn5⟩ := hy5.shape
  obtain ⟨⟨⟨c0, c1, c2, c3, c4, c5, c6⟩, l1, l2, b1⟩, ⟨e0, e1⟩, l3⟩ := id G5
  clear c0 c1 c2 c3 c4 c5 c6 l1 l2 b1 e0 e1 l3
  have p0 := X3.cell 0
  have p1 := X3.cell 1
  simp at p0 p1
  have lt35 := X3.lt
  have D5 : Below w5.heap.size w5 (w5.alloc (.cells #[.string q.s, .slice A5 n5 k5] 26)) := (Below.refl _ _).alloc (Nat.le_refl _) _
  have X5 := EBox.new w5 q.s (.slice A5 n5 k5)
  have F5 := G5.next D5
  have D1 := seq D1 D5
  have D2 := seq D2 D5
  have D3 := seq D3 D5
  have D4 := seq D4 D5
  have X1 := X1.next D5
  have X2 := X2.next D5
  have X3 := X3.below D5 X3.lt
  have X4 := X4.next D5
  have hv6 := hv.below F5.below
  have hu1v := hu1v.below D1
  have hu2v := hu2v.below D2
  have hu4v := hu4v.below D4
  have hu3o := hu3.own
  have hy3o := hy3.own
  have hu5o := hu5.own
  have hy5o := hy5.own
  have hu3 := (hu3.below D3).alloc (.cells #[.int .i64 9, .string ⟨#[]⟩, .string ⟨#[]⟩] 39)
  have hy3 := (hy3.below D3).alloc (.cells #[.int .i64 9, .string ⟨#[]⟩, .string ⟨#[]⟩] 39)
  have hq5 : n5 ≤ 140737488355328 := by have := hu5.2.1; have := hn5.out; omega
  have hdq5 : dn5 ≤ 140737488355328 := by have := hy5.2.1; have := hdn5.out; omega
  have hu5 := (hu5.below D5).row
  have hy5 := (hy5.below D5).row
  rw [← hn5.out] at hu5
  rw [← hdn5.out] at hy5
  have E6 := F5.2.1
  have B6 := F5.below
  simp only [World.size_alloc] at hsz0 hs01 hs12 hs23 hs34 hs45 hu3o hy3o hu5o hy5o hu4l hu3 hy3 hu5 hy5
  clear G5 F5 D1 D2 D3 D4 hu1l hu2l
  have hN : Nums (w2.heap.size + 1) w3.heap.size (w4.heap.size + 1) w5.heap.size (w5.heap.size + 1) := ⟨hs23, by omega, hs45, Nat.lt_succ_self _⟩
  have hwn : w.heap.size ≤ w2.heap.size + 1 := by omega
  have Z6 : Zn (w2.heap.size + 1) w3.heap.size (w4.heap.size + 1) w5.heap.size (w5.heap.size + 1) (w5.alloc (.cells #[.string q.s, .slice A5 n5 k5] 26)) ((w5.alloc (.cells #[.string q.s, .slice A5 n5 k5] 26)).alloc (.cells #[.int .i64 9, .string ⟨#[]⟩, .string ⟨#[]⟩] 39)) := (Zn.refl (by simp)).next hN ((Below.refl _ _).alloc (Nat.le_refl _) _)
  have B7 := B6.alloc B6.size (.cells #[.int .i64 9, .string ⟨#[]⟩, .string ⟨#[]⟩] 39)
  have one9 := Vs.one (w5.alloc (.cells #[.string q.s, .slice A5 n5 k5] 26)) ⟨9, ⟨#[]⟩, ⟨#[]⟩⟩ ⟨by decide, by decide, by decide⟩
  simp only [World.size_alloc] at one9
  have hlen9 : (p.k.length + [(⟨9, ⟨#[]⟩, ⟨#[]⟩⟩ : V)].length) * 40 ≤ 140737488355328 := by simp; omega
  have hlen8 : (p.d.length + [(⟨8, ⟨#[]⟩, ⟨#[]⟩⟩ : V)].length) * 40 ≤ 140737488355328 := by simp; omega
  have X3' := X3.alloc (.cells #[.int .i64 9, .string ⟨#[]⟩, .string ⟨#[]⟩] 39)
  have ne3 : (Value.slice A3 n3 k3).ownBlock ≠ some w3.heap.size := fun e => by have := (hu3o _ e).2; omega
  have ne3' : (Value.slice DA3 dn3 dk3).ownBlock ≠ some w3.heap.size := fun e => by have := (hy3o _ e).2; omega
  have of3 : ∀ g, (Value.slice A3 n3 k3).ownBlock = some g → Off (w2.heap.size + 1) w3.heap.size (w4.heap.size + 1) w5.heap.size (w5.heap.size + 1) g := fun g e => by have := hu3o _ e; refine ⟨this.1, ?_, ?_, ?_⟩ <;> omega
  have of3' : ∀ g, (Value.slice DA3 dn3 dk3).ownBlock = some g → Off (w2.heap.size + 1) w3.heap.size (w4.heap.size + 1) w5.heap.size (w5.heap.size + 1) g := fun g e => by have := hy3o _ e; refine ⟨this.1, ?_, ?_, ?_⟩ <;> omega
  have offc : ∀ g, (Value.slice A5 n5 k5).ownBlock = some g → Off (w2.heap.size + 1) w3.heap.size (w4.heap.size + 1) w5.heap.size (w5.heap.size + 1) g := fun g e => by have := hu5o _ e; refine ⟨?_, ?_, ?_, ?_⟩ <;> omega
  have offm : ∀ g, (Value.slice DA5 dn5 dk5).ownBlock = some g → Off (w2.heap.size + 1) w3.heap.size (w4.heap.size + 1) w5.heap.size (w5.heap.size + 1) g := fun g e => by have := hy5o _ e; refine ⟨?_, ?_, ?_, ?_⟩ <;> omega
  go_wp2_with (first
    | (at_builtin; apply wpList_append_vs (s := .tmp 59) (x := .tmp 61) (lo := w2.heap.size + 1) (B := w5.heap.size + 1 + 1) (l := p.k) (m := [⟨9, ⟨#[]⟩, ⟨#[]⟩⟩]) (A := some ⟨w5.heap.size + 1, 0, none⟩) (n := 1) (c := 1) (v := .slice A3 n3 k3); (case hgd => rfl); (case ho => rfl); (case hB => exact hu3); (case hs => rfl); (case hlo => (simp; omega)); (case hx => rfl); (case hn => rfl); (case hv => exact one9); (case hlen => exact hlen9); intro v6 w7 hown6 hg6 hat6; obtain ⟨A6, n6, k6, rfl, hn6⟩ := hown6.shape;
        have hR7 := Blk.grown X3' hg6 ne3; have r0 := hR7.cell 0; have r1 := hR7.cell 1; have f0 := hR7.frozen 0; have f1 := hR7.frozen 1; simp at r0 r1;
        have Z7 := (Z6.grown hN hg6 of3).set (g := w3.heap.size) ⟨hs23, .inl (Nat.le_refl _), .inl (by omega)⟩ 1 (.slice A6 n6 k6);
        have hy7 := (hy3.kept hg6 (fun g e => hap3 g e)).kept (grown_set w7 w3.heap.size 1 (.slice A6 n6 k6)) (fun g e => by cases e; exact ne3');
        have one8 := Vs.one (w7.setCell ⟨w3.heap.size, 1, none⟩ (.slice A6 n6 k6)) ⟨8, ⟨#[]⟩, ⟨#[]⟩⟩ ⟨by decide, by decide, by decide⟩; rw [World.size_setCell] at one8)
    | (at_builtin; apply wpList_append_vs (s := .tmp 64) (x := .tmp 66) (lo := w2.heap.size + 1) (B := w7.heap.size + 1) (A := some ⟨w7.heap.size, 0, none⟩) (l := p.d) (m := [⟨8, ⟨#[]⟩, ⟨#[]⟩⟩]) (n := 1) (c := 1) (v := .slice DA3 dn3 dk3); (case hgd => rfl); (case ho => rfl); (case hB => exact hy7.alloc (.cells #[.int .i64 8, .string ⟨#[]⟩, .string ⟨#[]⟩] 39)); (case hs => rfl); (case hlo => (simp; have := Z7.2; simp at this; omega)); (case hx => rfl); (case hn => rfl); (case hv => exact one8); (case hlen => exact hlen8); intro v8 w8 hown8 hg8 hat8; obtain ⟨A8, n8, k8, rfl, hn8⟩ := hown8.shape;
        have hR8 := Blk.grown ((hR7.put 1 (.slice A6 n6 k6)).alloc (.cells #[.int .i64 8, .string ⟨#[]⟩, .string ⟨#[]⟩] 39)) hg8 ne3'; have s0 := hR8.cell 0; have s1 := hR8.cell 1; simp at s0 s1))
  have hs7 := hg6.size
  simp only [World.size_alloc] at hs7 hat6
  have Z8 := (Z7.next hN ((Below.refl _ _).alloc (Nat.le_refl _) (.cells #[.int .i64 8, .string ⟨#[]⟩, .string ⟨#[]⟩] 39))).grown hN hg8 of3'
  have B8 := (((B7.grown hg6 B7.size (fun k hk => Nat.le_trans hwn (hu3o k hk).1)).setCell (p := ⟨w3.heap.size, 1, none⟩) (by simp only; omega) (.slice A6 n6 k6)).alloc (by simp; omega) (.cells #[.int .i64 8, .string ⟨#[]⟩, .string ⟨#[]⟩] 39)).grown hg8 (by simp; omega) (fun k hk => Nat.le_trans hwn (hy3o k hk).1)
  have ne6 : (Value.slice A6 n6 k6).ownBlock ≠ some w3.heap.size := by
    rcases hat6 with e | e
    · rw [e]; exact ne3
    · rw [e]; simp; omega
  have ap6 : ∀ g, (Value.slice DA3 dn3 dk3).ownBlock = some g → (Value.slice A6 n6 k6).ownBlock ≠ some g := by
    intro g hg e6
    rcases hat6 with e | e
    · exact hap3 g (e.symm.trans e6) hg
    · rw [e] at e6
      have := (hy3o g hg).2
      simp at e6
      omega
  have of6 : ∀ g, (Value.slice A6 n6 k6).ownBlock = some g → Off (w2.heap.size + 1) w3.heap.size (w4.heap.size + 1) w5.heap.size (w5.heap.size + 1) g := by
    intro g hg
    rcases hat6 with e | e
    · exact of3 g (e.symm.trans hg)
    · rw [e] at hg
      simp at hg
      refine ⟨?_, ?_, ?_, ?_⟩ <;> omega
  have hs7' : w7.heap.size + 1 = ((w7.setCell ⟨w3.heap.size, 1, none⟩ (.slice A6 n6 k6)).alloc (.cells #[.int .i64 8, .string ⟨#[]⟩, .string ⟨#[]⟩] 39)).heap.size := by simp
  rw [← hs7'] at hat8
  have of8 : ∀ g, (Value.slice A8 n8 k8).ownBlock = some g → Off (w2.heap.size + 1) w3.heap.size (w4.heap.size + 1) w5.heap.size (w5.heap.size + 1) g := by
    intro g hg
    rcases hat8 with e | e
    · exact of3' g (e.symm.trans hg)
    · rw [e] at hg
      simp at hg
      refine ⟨?_, ?_, ?_, ?_⟩ <;> omega
  have ra := (((hown6.kept (grown_set w7 w3.heap.size 1 (.slice A6 n6 k6)) (fun g e => by cases e; exact ne6)).alloc (.cells #[.int .i64 8, .string ⟨#[]⟩, .string ⟨#[]⟩] 39)).kept hg8 ap6).row
  have rl := hown8.row
  have rc := ((((hu5.alloc (.cells #[.int .i64 9, .string ⟨#[]⟩, .string ⟨#[]⟩] 39)).kept hg6 (fun g e e2 => by have := hu3o g e; have := hu5o g e2; omega)).set w3.heap.size 1 (.slice A6 n6 k6)).alloc (.cells #[.int .i64 8, .string ⟨#[]⟩, .string ⟨#[]⟩] 39)).kept hg8 (fun g e e2 => by have := hy3o g e; have := hu5o g e2; omega)
  have rm := ((((hy5.alloc (.cells #[.int .i64 9, .string ⟨#[]⟩, .string ⟨#[]⟩] 39)).kept hg6 (fun g e e2 => by have := hu3o g e; have := hy5o g e2; omega)).set w3.heap.size 1 (.slice A6 n6 k6)).alloc (.cells #[.int .i64 8, .string ⟨#[]⟩, .string ⟨#[]⟩] 39)).kept hg8 (fun g e e2 => by have := hy3o g e; have := hy5o g e2; omega)
  rw [← hn6.out] at ra
  rw [← hn8.out] at rl
  have hn6 := hn6.out
  have hn8 := hn8.out
  simp only [List.length_append, List.length_singleton] at hn6 hn8
  have h6 : n6 ≤ 6 := by omega
  have h8 : n8 ≤ 5 := by omega
  have hz := Z8
  have hr := And.intro ra (And.intro rl (And.intro rc rm))
  have hb := B8
  have hc1 := s1
  clear hs7' hs7 Z8 B8 ra rl rc rm hn6 hn8 s1 s0 hR8 hat8 hown8 hg8 hR7 r0 r1 f0 f1 Z7 hy7 one8 hat6 hown6 hg6 hlen9 hlen8 one9 B7 Z6 X3' ne3 ne3' ne6 ap6 of3 of3' hap3 hu3 hy3 hu5 hy5 hu3o hy3o hu5o hy5o hl4 hn3 hdn3 hn5 hdn5 p0 p1 X3 B6
  generalize hw8 : w8 = wr at hz hr hb hc1 ⊢
  clear hw8
  go_loopw [71] (fun x wr => WHead (w2.heap.size + 1) w3.heap.size (w4.heap.size + 1) w5.heap.size (w5.heap.size + 1) w (w5.alloc (.cells #[.string q.s, .slice A5 n5 k5] 26)) (.slice A6 n6 k6) (.slice A8 n8 k8) (.slice A5 n5 k5) (.slice DA5 dn5 dk5) n6 n8 n5 dn5 n6 x wr) (fun x _ => n6 - (intOf x).toNat)
  case atStart => exact ⟨0, Nat.zero_le _, rfl, hz, hr, hb, hc1⟩
  case round =>
    clear hz hr hb hc1
    obtain ⟨j, hj, rfl, hz, hr, hb, hc1⟩ := hrel
    by_cases hlt : j < n6
    · obtain ⟨g, hg6, hcap⟩ := hr.1.form (by omega)
      have hof := of6 g (by rw [hg6]; rfl)
      subst hg6
      obtain ⟨⟨u0, hu0⟩, hf0⟩ := hr.1.cell (j := j * 3 + 1) (by omega)
      go_wp2_with fail
      exact ⟨WHead.step hwn hlt hz hr hb hc1 hof _ _, by simp [intOf]; omega⟩
    · have hj0 : ¬ (j : Int) < (n6 : Int) := by omega
      clear hlt
      go_wp2_with fail
      go_loopw [82] (fun x wr => WHead (w2.heap.size + 1) w3.heap.size (w4.heap.size + 1) w5.heap.size (w5.heap.size + 1) w (w5.alloc (.cells #[.string q.s, .slice A5 n5 k5] 26)) (.slice A6 n6 k6) (.slice A8 n8 k8) (.slice A5 n5 k5) (.slice DA5 dn5 dk5) n6 n8 n5 dn5 n8 x wr) (fun x _ => n8 - (intOf x).toNat)
      case atStart => exact ⟨0, Nat.zero_le _, rfl, hz, hr, hb, hc1⟩
      case round =>
        clear hz hr hb hc1
        obtain ⟨j, hj, rfl, hz, hr, hb, hc1⟩ := hrel
        by_cases hlt : j < n8
        · obtain ⟨g, hg6, hcap⟩ := hr.2.1.form (by omega)
          have hof := of8 g (by rw [hg6]; rfl)
          subst hg6
          obtain ⟨⟨u0, hu0⟩, hf0⟩ := hr.2.1.cell (j := j * 3 + 1) (by omega)
          go_wp2_with fail
          exact ⟨WHead.step hwn hlt hz hr hb hc1 hof _ _, by simp [intOf]; omega⟩
        · have hj0 : ¬ (j : Int) < (n8 : Int) := by omega
          clear hlt
          have y1 : wr.cell? ⟨w5.heap.size, 1, none⟩ = some (.slice A5 n5 k5) := (hz.1 ⟨w5.heap.size, 1, none⟩ (.inr (.inr ⟨Nat.le_refl _, Nat.lt_succ_self _⟩))).trans X5.1.2
          go_wp2_with fail
          clear y1
          go_loopw [93] (fun x wr => WHead (w2.heap.size + 1) w3.heap.size (w4.heap.size + 1) w5.heap.size (w5.heap.size + 1) w (w5.alloc (.cells #[.string q.s, .slice A5 n5 k5] 26)) (.slice A6 n6 k6) (.slice A8 n8 k8) (.slice A5 n5 k5) (.slice DA5 dn5 dk5) n6 n8 n5 dn5 n5 x wr) (fun x _ => n5 - (intOf x).toNat)
          case atStart => exact ⟨0, Nat.zero_le _, rfl, hz, hr, hb, hc1⟩
          case round =>
            clear hz hr hb hc1
            obtain ⟨j, hj, rfl, hz, hr, hb, hc1⟩ := hrel
            by_cases hlt : j < n5
            · have y1 : wr.cell? ⟨w5.heap.size, 1, none⟩ = some (.slice A5 n5 k5) := (hz.1 ⟨w5.heap.size, 1, none⟩ (.inr (.inr ⟨Nat.le_refl _, Nat.lt_succ_self _⟩))).trans X5.1.2
              obtain ⟨g, hg6, hcap⟩ := hr.2.2.1.form (by omega)
              have hof := offc g (by rw [hg6]; rfl)
              subst hg6
              obtain ⟨⟨u0, hu0⟩, hf0⟩ := hr.2.2.1.cell (j := j * 3) (by omega)
              go_wp2_with fail
              exact ⟨WHead.step hwn hlt hz hr hb hc1 hof _ _, by simp [intOf]; omega⟩
            · have hj0 : ¬ (j : Int) < (n5 : Int) := by omega
              clear hlt
              go_wp2_with fail
              go_loopw [104] (fun x wr => WHead (w2.heap.size + 1) w3.heap.size (w4.heap.size + 1) w5.heap.size (w5.heap.size + 1) w (w5.alloc (.cells #[.string q.s, .slice A5 n5 k5] 26)) (.slice A6 n6 k6) (.slice A8 n8 k8) (.slice A5 n5 k5) (.slice DA5 dn5 dk5) n6 n8 n5 dn5 dn5 x wr) (fun x _ => dn5 - (intOf x).toNat)
              case atStart => exact ⟨0, Nat.zero_le _, rfl, hz, hr, hb, hc1⟩
              case round =>
                clear hz hr hb hc1
                obtain ⟨j, hj, rfl, hz, hr, hb, hc1⟩ := hrel
                by_cases hlt : j < dn5
                · obtain ⟨g, hg6, hcap⟩ := hr.2.2.2.form (by omega)
                  have hof := offm g (by rw [hg6]; rfl)
                  subst hg6
                  obtain ⟨⟨u0, hu0⟩, hf0⟩ := hr.2.2.2.cell (j := j * 3) (by omega)
                  go_wp2_with fail
                  exact ⟨WHead.step hwn hlt hz hr hb hc1 hof _ _, by simp [intOf]; omega⟩
                · have hj0 : ¬ (j : Int) < (dn5 : Int) := by omega
                  clear hlt
                  have hzs := hz.2
                  have T5a := (hz.1 ⟨w.heap.size + 1, 0, none⟩ (.inl (by simp only; omega))).trans E6.1
                  have T5b := (hz.1 ⟨w.heap.size + 1, 1, none⟩ (.inl (by simp only; omega))).trans E6.2
                  have T9a := (hz.1 ⟨w1.heap.size, 0, none⟩ (.inl (by simp only; omega))).trans X1.1.1
                  have T9b := (hz.1 ⟨w1.heap.size, 1, none⟩ (.inl (by simp only; omega))).trans X1.1.2
                  have T10a := (hz.1 ⟨w2.heap.size, 0, none⟩ (.inl (by simp only; omega))).trans X2.1.1
                  have T10b := (hz.1 ⟨w2.heap.size, 1, none⟩ (.inl (by simp only; omega))).trans X2.1.2.1
                  have T10d := (hz.1 ⟨w2.heap.size, 3, none⟩ (.inl (by simp only; omega))).trans X2.1.2.2.2
                  have T14a := (hz.1 ⟨w4.heap.size, 0, none⟩ (.inr (.inl (by simp only; omega)))).trans X4.1.1
                  have T14b := (hz.1 ⟨w4.heap.size, 1, none⟩ (.inr (.inl (by simp only; omega)))).trans X4.1.2
                  have L5 := (hv6.zone 0 (fun _ _ _ => Nat.zero_le _) (fun p _ hp => hz.1 p (.inl (by omega)))).more (B' := wr.heap.size) hb.size
                  have L9 := (hu1v.zone 0 (fun _ _ _ => Nat.zero_le _) (fun p _ hp => hz.1 p (.inl (by omega)))).more (B' := wr.heap.size) (by omega)
                  have L10 := (hu2v.zone 0 (fun _ _ _ => Nat.zero_le _) (fun p _ hp => hz.1 p (.inl (by omega)))).more (B' := wr.heap.size) (by omega)
                  have L14 := (hu4v.zone (w3.heap.size + 1) hu4l (fun p hp1 hp => hz.1 p (.inr (.inl (by omega))))).more (B' := wr.heap.size) (by omega)
                  clear hv6 hu1v hu2v hu4v hr hc1 of6 of8 offc offm E6 X1 X2 X4 X5 hN hu4l
                  go_wp2_with fail
                  refine (like_any _ _ _ _ _ _ _ _ _ L5 L9).mono ?_
                  rintro z w9 ⟨rfl, hb9⟩
                  rw [dec_self]
                  have T10a := (hb9.cell (p := ⟨w2.heap.size, 0, none⟩) (by simp only; omega)).trans T10a
                  have T10b := (hb9.cell (p := ⟨w2.heap.size, 1, none⟩) (by simp only; omega)).trans T10b
                  have T14a := (hb9.cell (p := ⟨w4.heap.size, 0, none⟩) (by simp only; omega)).trans T14a
                  have T14b := (hb9.cell (p := ⟨w4.heap.size, 1, none⟩) (by simp only; omega)).trans T14b
                  have L10 := (L10.below hb9).more (B' := w9.heap.size) hb9.size
                  have L14 := (L14.below hb9).more (B' := w9.heap.size) hb9.size
                  have b9 := hb.trans (hb9.mono hb.size)
                  clear T5a T5b T9a T9b T10d L5 L9 hz hb hzs
                  go_wp2_with fail
                  refine (like_any _ _ _ _ _ _ _ _ _ L14 L10).mono ?_
                  rintro z w10 ⟨rfl, hb10⟩
                  rw [dec_self]
                  go_wp2_with fail
                  go_ret
                  exact ⟨rfl, b9.trans (hb10.mono b9.size)⟩
end Go.Proofs.Ytolngibmfffjcaa.vers
