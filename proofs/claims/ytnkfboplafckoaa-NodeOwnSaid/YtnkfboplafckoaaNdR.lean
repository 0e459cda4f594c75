/- What letheref06's isNum, version and isKid answer. -/
import Derived.Test.YtnkfboplafckoaaNdQ


namespace Go.Proofs.Ytnkfboplafckoaa.nodes
set_option linter.unusedVariables false
set_option linter.unusedSimpArgs false
open Go.RowKit Go.Proofs.Ytnkfboplafckoaa.base Go.Proofs.Ytnkfboplafckoaa.quotas Go.Proofs.Ytnkfboplafckoaa.vers Go.Proofs.Ytnkfboplafckoaa.tm Go.Proofs.Ytnkfboplafckoaa.lies Go.Proofs.Ytnkfboplafckoaa.copies Go.Proofs.Ytnkfboplafckoaa.makes

/-- the four cells of a term at a place -/
def P4 (w : World) (b o : Nat) (t : T) (u : Value) : Prop := w.cell? ⟨b, o, none⟩ = some (.int .i64 t.k) ∧ w.cell? ⟨b, o + 1, none⟩ = some (.int .u64 t.n) ∧ w.cell? ⟨b, o + 2, none⟩ = some (.string t.s) ∧ w.cell? ⟨b, o + 3, none⟩ = some u
theorem P4.next {w w' : World} {b o : Nat} {t : T} {u : Value} {B : Nat} (h : P4 w b o t u) (hb : Below B w w') (hB : b < B) : P4 w' b o t u := by
  obtain ⟨h1, h2, h3, h4⟩ := h
  refine ⟨?_, ?_, ?_, ?_⟩ <;> (rw [hb.cell (by simpa using hB)]; assumption)
/-- a box of the call's own that holds a term -/
theorem P4.new (w : World) (t : T) (u : Value) : P4 (w.alloc (.cells #[.int .i64 t.k, .int .u64 t.n, .string t.s, u] 31)) w.heap.size 0 t u := by
  have k := Blk.new w 31 #[.int .i64 t.k, .int .u64 t.n, .string t.s, u]
  exact ⟨k.cell 0, k.cell 1, k.cell 2, k.cell 3⟩
theorem P4.at0 {w : World} {b : Nat} {t : T} {u : Value} (h : P4 w b 0 t u) : w.cell? ⟨b, 0, none⟩ = some (.int .i64 t.k) ∧ w.cell? ⟨b, 1, none⟩ = some (.int .u64 t.n) ∧ w.cell? ⟨b, 2, none⟩ = some (.string t.s) ∧ w.cell? ⟨b, 3, none⟩ = some u := by simpa [P4] using h
/-- the j-th of a list that lies in memory -/
theorem S_at {w : World} {B : Nat} {l : List T} {A : Option Addr} {c : Nat} (h : LiesS w B l A c) {j : Nat} (hj : j < l.length) :
    ∃ b off A' c', A = some ⟨b, off, none⟩ ∧ b < B ∧ Lies w B l[j] (.slice A' l[j].l.length c') ∧ P4 w b (off + j * 4) l[j] (.slice A' l[j].l.length c') := by
  obtain ⟨xs, _, _, hr, hL⟩ := h
  obtain ⟨b, off, A', c', e, hb, hl, h0, h1, h2, h3⟩ := at_cells hr hL hj
  exact ⟨b, off, A', c', e, hb, hl, h0, h1, h2, h3⟩
theorem S_keep {w w' : World} {B : Nat} {l : List T} {A : Option Addr} {c : Nat} (h : LiesS w B l A c) (hb : Below B w w') : LiesS w' B l A c := by
  obtain ⟨xs, h1, h2, h3, h4⟩ := h
  exact ⟨xs, h1, h2, h3.below hb, h4.below hb⟩
theorem S_more {w : World} {B B' : Nat} {l : List T} {A : Option Addr} {c : Nat} (h : LiesS w B l A c) (hB : B ≤ B') : LiesS w B' l A c := by
  obtain ⟨xs, h1, h2, h3, h4⟩ := h
  exact ⟨xs, h1, h2, h3.more hB, LiesL.more hB _ _ h4⟩
theorem S_world {w wr : World} {l : List T} {A : Option Addr} {c : Nat} (h : LiesS w w.heap.size l A c) (hb : Below w.heap.size w wr) : LiesS wr wr.heap.size l A c := S_more (S_keep h hb) hb.size
theorem S_of {w : World} {B : Nat} {t : T} {A : Option Addr} {n c : Nat} (h : Lies w B t (.slice A n c)) : LiesS w B t.l A c ∧ n = t.l.length := by
  obtain ⟨A', c', xs, e, _, _, _, h1, h2, h3, h4⟩ := h.open_
  cases e
  exact ⟨⟨xs, h1, h2, h3, h4⟩, rfl⟩

/-- the cells of a list of 3 -/
def L3 (w : World) (b off : Nat) (x0 x1 x2 : T) (u0 u1 u2 : Value) : Prop := P4 w b off x0 u0 ∧ P4 w b (off + 4) x1 u1 ∧ P4 w b (off + 8) x2 u2
theorem L3.next {w w' : World} {b off B : Nat} {x0 x1 x2 : T} {u0 u1 u2 : Value} (h : L3 w b off x0 x1 x2 u0 u1 u2) (hb : Below B w w') (hB : b < B) : L3 w' b off x0 x1 x2 u0 u1 u2 := by
  obtain ⟨h0, h1, h2⟩ := h
  exact ⟨h0.next hb hB, h1.next hb hB, h2.next hb hB⟩
theorem S_3 {w : World} {B : Nat} {x0 x1 x2 : T} {A : Option Addr} {c : Nat} (h : LiesS w B [x0, x1, x2] A c) : ∃ b off u0 u1 u2, A = some ⟨b, off, none⟩ ∧ b < B ∧ L3 w b off x0 x1 x2 u0 u1 u2 := by
  obtain ⟨b0, o0, A0, c0, e0, hb0, _, p0⟩ := S_at h (j := 0) (by simp)
  obtain ⟨b1, o1, A1, c1, e1, hb1, _, p1⟩ := S_at h (j := 1) (by simp)
  obtain ⟨b2, o2, A2, c2, e2, hb2, _, p2⟩ := S_at h (j := 2) (by simp)
  subst e0
  cases e1
  cases e2
  simp only [Nat.zero_mul, Nat.add_zero] at p0
  exact ⟨_, _, _, _, _, rfl, hb0, p0, p1, p2⟩

/-- the cells of a list of 5 -/
def L5 (w : World) (b off : Nat) (x0 x1 x2 x3 x4 : T) (u0 u1 u2 u3 u4 : Value) : Prop := P4 w b off x0 u0 ∧ P4 w b (off + 4) x1 u1 ∧ P4 w b (off + 8) x2 u2 ∧ P4 w b (off + 12) x3 u3 ∧ P4 w b (off + 16) x4 u4
theorem L5.next {w w' : World} {b off B : Nat} {x0 x1 x2 x3 x4 : T} {u0 u1 u2 u3 u4 : Value} (h : L5 w b off x0 x1 x2 x3 x4 u0 u1 u2 u3 u4) (hb : Below B w w') (hB : b < B) : L5 w' b off x0 x1 x2 x3 x4 u0 u1 u2 u3 u4 := by
  obtain ⟨h0, h1, h2, h3, h4⟩ := h
  exact ⟨h0.next hb hB, h1.next hb hB, h2.next hb hB, h3.next hb hB, h4.next hb hB⟩
theorem S_5 {w : World} {B : Nat} {x0 x1 x2 x3 x4 : T} {A : Option Addr} {c : Nat} (h : LiesS w B [x0, x1, x2, x3, x4] A c) : ∃ b off u0 u1 u2 u3 u4, A = some ⟨b, off, none⟩ ∧ b < B ∧ L5 w b off x0 x1 x2 x3 x4 u0 u1 u2 u3 u4 := by
  obtain ⟨b0, o0, A0, c0, e0, hb0, _, p0⟩ := S_at h (j := 0) (by simp)
  obtain ⟨b1, o1, A1, c1, e1, hb1, _, p1⟩ := S_at h (j := 1) (by simp)
  obtain ⟨b2, o2, A2, c2, e2, hb2, _, p2⟩ := S_at h (j := 2) (by simp)
  obtain ⟨b3, o3, A3, c3, e3, hb3, _, p3⟩ := S_at h (j := 3) (by simp)
  obtain ⟨b4, o4, A4, c4, e4, hb4, _, p4⟩ := S_at h (j := 4) (by simp)
  subst e0
  cases e1
  cases e2
  cases e3
  cases e4
  simp only [Nat.zero_mul, Nat.add_zero] at p0
  exact ⟨_, _, _, _, _, _, _, rfl, hb0, p0, p1, p2, p3, p4⟩

/-- behind the beginning: the term's box, the cells of its list -/
def LSt3 (w : World) (t : T) (u : Value) (b off : Nat) (x0 x1 x2 : T) (u0 u1 u2 : Value) (wr : World) : Prop := (wr.cell? ⟨w.heap.size, 0, none⟩ = some (.int .i64 t.k) ∧ wr.cell? ⟨w.heap.size, 1, none⟩ = some (.int .u64 t.n) ∧ wr.cell? ⟨w.heap.size, 2, none⟩ = some (.string t.s) ∧ wr.cell? ⟨w.heap.size, 3, none⟩ = some u) ∧ L3 wr b off x0 x1 x2 u0 u1 u2 ∧ Below w.heap.size w wr ∧ b < w.heap.size ∧ w.heap.size < wr.heap.size
theorem LSt3.new {w : World} {b off : Nat} {x0 x1 x2 : T} {u0 u1 u2 : Value} (t : T) (u : Value) (h : L3 w b off x0 x1 x2 u0 u1 u2) (hb : b < w.heap.size) : LSt3 w t u b off x0 x1 x2 u0 u1 u2 (w.alloc (.cells #[.int .i64 t.k, .int .u64 t.n, .string t.s, u] 31)) :=
  ⟨(P4.new w t u).at0, h.next ((Below.refl w.heap.size w).alloc (Nat.le_refl _) _) hb, (Below.refl _ _).alloc (Nat.le_refl _) _, hb, by simp⟩
theorem LSt3.next {w wr w' : World} {t : T} {u : Value} {b off : Nat} {x0 x1 x2 : T} {u0 u1 u2 : Value} (h : LSt3 w t u b off x0 x1 x2 u0 u1 u2 wr) (hb : Below wr.heap.size wr w') : LSt3 w t u b off x0 x1 x2 u0 u1 u2 w' := by
  obtain ⟨⟨h0, h1, h2, h3⟩, hl, hw, hbb, hs⟩ := h
  have hz := hb.size
  refine ⟨⟨?_, ?_, ?_, ?_⟩, hl.next hb (by omega), hw.trans (hb.mono hw.size), hbb, by omega⟩ <;> (rw [hb.cell (by simpa using hs)]; assumption)

/-- behind the beginning: the term's box, the cells of its list -/
def LSt5 (w : World) (t : T) (u : Value) (b off : Nat) (x0 x1 x2 x3 x4 : T) (u0 u1 u2 u3 u4 : Value) (wr : World) : Prop := (wr.cell? ⟨w.heap.size, 0, none⟩ = some (.int .i64 t.k) ∧ wr.cell? ⟨w.heap.size, 1, none⟩ = some (.int .u64 t.n) ∧ wr.cell? ⟨w.heap.size, 2, none⟩ = some (.string t.s) ∧ wr.cell? ⟨w.heap.size, 3, none⟩ = some u) ∧ L5 wr b off x0 x1 x2 x3 x4 u0 u1 u2 u3 u4 ∧ Below w.heap.size w wr ∧ b < w.heap.size ∧ w.heap.size < wr.heap.size
theorem LSt5.new {w : World} {b off : Nat} {x0 x1 x2 x3 x4 : T} {u0 u1 u2 u3 u4 : Value} (t : T) (u : Value) (h : L5 w b off x0 x1 x2 x3 x4 u0 u1 u2 u3 u4) (hb : b < w.heap.size) : LSt5 w t u b off x0 x1 x2 x3 x4 u0 u1 u2 u3 u4 (w.alloc (.cells #[.int .i64 t.k, .int .u64 t.n, .string t.s, u] 31)) :=
  ⟨(P4.new w t u).at0, h.next ((Below.refl w.heap.size w).alloc (Nat.le_refl _) _) hb, (Below.refl _ _).alloc (Nat.le_refl _) _, hb, by simp⟩
theorem LSt5.next {w wr w' : World} {t : T} {u : Value} {b off : Nat} {x0 x1 x2 x3 x4 : T} {u0 u1 u2 u3 u4 : Value} (h : LSt5 w t u b off x0 x1 x2 x3 x4 u0 u1 u2 u3 u4 wr) (hb : Below wr.heap.size wr w') : LSt5 w t u b off x0 x1 x2 x3 x4 u0 u1 u2 u3 u4 w' := by
  obtain ⟨⟨h0, h1, h2, h3⟩, hl, hw, hbb, hs⟩ := h
  have hz := hb.size
  refine ⟨⟨?_, ?_, ?_, ?_⟩, hl.next hb (by omega), hw.trans (hb.mono hw.size), hbb, by omega⟩ <;> (rw [hb.cell (by simpa using hs)]; assumption)

end Go.Proofs.Ytnkfboplafckoaa.nodes
