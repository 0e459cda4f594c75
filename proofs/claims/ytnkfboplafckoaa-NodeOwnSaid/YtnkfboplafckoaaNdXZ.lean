/- What letheref06's isEntry, formed and toKid answer. -/
import Derived.Test.YtnkfboplafckoaaNdU
import Derived.Test.YtnkfboplafckoaaNdQb
import Derived.Test.YtnkfboplafckoaaMixC
import Derived.Test.YtnkfboplafckoaaNdW
import Derived.Test.YtnkfboplafckoaaNdE


namespace Go.Proofs.Ytnkfboplafckoaa.nodes
set_option linter.unusedVariables false
set_option linter.unusedSimpArgs false
open Go.RowKit Go.Proofs.Ytnkfboplafckoaa.base Go.Proofs.Ytnkfboplafckoaa.quotas Go.Proofs.Ytnkfboplafckoaa.vers Go.Proofs.Ytnkfboplafckoaa.tm Go.Proofs.Ytnkfboplafckoaa.lies Go.Proofs.Ytnkfboplafckoaa.copies Go.Proofs.Ytnkfboplafckoaa.makes

/-- a box that holds a term, whose list begins with x -/
def Xb (w : World) (b off : Nat) (x : T) (ux : Value) (m : Int) (s : ByteArray) (u : Value) (wr : World) : Prop := ((wr.cell? ⟨b, off, none⟩ = some (.int .i64 x.k) ∧ wr.cell? ⟨b, off + 1, none⟩ = some (.int .u64 x.n) ∧ wr.cell? ⟨b, off + 2, none⟩ = some (.string x.s) ∧ wr.cell? ⟨b, off + 3, none⟩ = some ux) ∧
  (wr.cell? ⟨w.heap.size, 0, none⟩ = some (.int .i64 5) ∧ wr.cell? ⟨w.heap.size, 1, none⟩ = some (.int .u64 m) ∧ wr.cell? ⟨w.heap.size, 2, none⟩ = some (.string s) ∧ wr.cell? ⟨w.heap.size, 3, none⟩ = some u)) ∧ Below w.heap.size w wr ∧ b < w.heap.size ∧ w.heap.size < wr.heap.size
theorem Xb.new {w : World} {b off : Nat} {x : T} {ux : Value} (m : Int) (s : ByteArray) (u : Value) (h : P4 w b off x ux) (hb : b < w.heap.size) : Xb w b off x ux m s u (w.alloc (.cells #[.int .i64 5, .int .u64 m, .string s, u] 31)) := by
  have b0 : Below w.heap.size w (w.alloc (.cells #[.int .i64 5, .int .u64 m, .string s, u] 31)) := (Below.refl _ _).alloc (Nat.le_refl _) _
  have k := Blk.new w 31 #[.int .i64 5, .int .u64 m, .string s, u]
  exact ⟨⟨h.next b0 hb, k.cell 0, k.cell 1, k.cell 2, k.cell 3⟩, b0, hb, by simp⟩
theorem Xb.next {w wr w' : World} {b off : Nat} {x : T} {ux : Value} {m : Int} {s : ByteArray} {u : Value} (h : Xb w b off x ux m s u wr) {B : Nat} (hB : w.heap.size < B) (hb : Below B wr w') (hs : wr.heap.size ≤ w'.heap.size) : Xb w b off x ux m s u w' := by
  obtain ⟨⟨⟨a0, a1, a2, a3⟩, y0, y1, y2, y3⟩, h3, h4, h5⟩ := h
  refine ⟨⟨⟨?_, ?_, ?_, ?_⟩, ?_, ?_, ?_, ?_⟩, h3.trans (hb.mono (Nat.le_of_lt hB)), h4, by omega⟩ <;> (rw [hb.cell (by simp; omega)]; assumption)
theorem Xb.next' {w wr w' : World} {b off : Nat} {x : T} {ux : Value} {m : Int} {s : ByteArray} {u : Value} (h : Xb w b off x ux m s u wr) (hb : Below wr.heap.size wr w') : Xb w b off x ux m s u w' := h.next h.2.2.2 hb hb.size

end Go.Proofs.Ytnkfboplafckoaa.nodes

/- What letheref06's toKid and toEntry answer. -/

namespace Go.Proofs.Ytnkfboplafckoaa.nodes
set_option linter.unusedVariables false
set_option linter.unusedSimpArgs false
open Go.RowKit Go.Proofs.Ytnkfboplafckoaa.base Go.Proofs.Ytnkfboplafckoaa.quotas Go.Proofs.Ytnkfboplafckoaa.vers Go.Proofs.Ytnkfboplafckoaa.tm Go.Proofs.Ytnkfboplafckoaa.lies Go.Proofs.Ytnkfboplafckoaa.copies Go.Proofs.Ytnkfboplafckoaa.makes

/-- behind the reference's making -/
def Kb6 (w : World) (b o g : Nat) (s : ByteArray) (n1 n2 n3 n4 : Int) (u : Value) (wr : World) : Prop := Kb5 w b o g s n1 n2 n3 n4 wr ∧ wr.cell? ⟨w.heap.size, 3, none⟩ = some u
theorem Kb6.next {w wr w' : World} {b o g : Nat} {s : ByteArray} {n1 n2 n3 n4 : Int} {u : Value} (h : Kb6 w b o g s n1 n2 n3 n4 u wr) (hb : Below wr.heap.size wr w') : Kb6 w b o g s n1 n2 n3 n4 u w' := by
  obtain ⟨h1, h2⟩ := h
  have := h1.2.2.2.1.lt
  exact ⟨h1.next hb, by rw [hb.cell (by simp; omega)]; exact h2⟩

/-- what toEntry answers -/
def TEAns (w : World) (y : ByteArray × List V) (e : Ending) (w' : World) : Prop := ∃ A c, e = .returned (.agg #[.string y.1, .slice A y.2.length c]) ∧ HVs w' w.heap.size w'.heap.size y.2 A c ∧ Below w.heap.size w w'
/-- behind an element's box: what is read -/
def Ts (W1 : World) (g : Nat) (u : Value) (q b3 off3 c2 : Nat) (n0 : Int) (s1 s2 : ByteArray) (wr : World) : Prop := (wr.cell? ⟨g, 1, none⟩ = some u ∧ wr.cell? ⟨q, 3, none⟩ = some (.slice (some ⟨b3, off3, none⟩) 3 c2) ∧ wr.cell? ⟨b3, off3 + 1, none⟩ = some (.int .u64 n0) ∧ wr.cell? ⟨b3, off3 + 4 + 2, none⟩ = some (.string s1) ∧ wr.cell? ⟨b3, off3 + 8 + 2, none⟩ = some (.string s2)) ∧ (g < wr.heap.size ∧ q < wr.heap.size ∧ b3 < wr.heap.size) ∧ Below W1.heap.size W1 wr
theorem Ts.next {W1 wr w' : World} {g : Nat} {u : Value} {q b3 off3 c2 : Nat} {n0 : Int} {s1 s2 : ByteArray} (h : Ts W1 g u q b3 off3 c2 n0 s1 s2 wr) (hb : Below wr.heap.size wr w') : Ts W1 g u q b3 off3 c2 n0 s1 s2 w' := by
  obtain ⟨⟨h0, h1, h2, h3, h4⟩, ⟨g1, g2, g3⟩, hw⟩ := h
  have hs := hb.size
  refine ⟨⟨?_, ?_, ?_, ?_, ?_⟩, ⟨by omega, by omega, by omega⟩, hw.trans (hb.mono hw.size)⟩ <;> (rw [hb.cell (by simpa using (by assumption))]; assumption)
/-- a round's head of toEntry -/
def EHd (w : World) (s : ByteArray) (r : List T) (i : Value) (wr : World) : Prop := ∃ (j : Nat) (u : Value), j ≤ r.length ∧ i = .int .i64 j ∧ Blk wr (w.heap.size + 2) 53 #[.string s, u] ∧ OwnV (w.heap.size + 3) wr ((r.take j).map toV) u ∧ Blk wr (w.heap.size + 1) 53 #[.string ⟨#[]⟩, .slice none 0 0] ∧ Below w.heap.size w wr ∧ w.heap.size + 3 ≤ wr.heap.size

end Go.Proofs.Ytnkfboplafckoaa.nodes

/- What letheref06's From answers. -/

namespace Go.Proofs.Ytnkfboplafckoaa.nodes
set_option linter.unusedVariables false
set_option linter.unusedSimpArgs false
open Go.RowKit Go.Proofs.Ytnkfboplafckoaa.base Go.Proofs.Ytnkfboplafckoaa.quotas Go.Proofs.Ytnkfboplafckoaa.vers Go.Proofs.Ytnkfboplafckoaa.tm Go.Proofs.Ytnkfboplafckoaa.lies Go.Proofs.Ytnkfboplafckoaa.copies Go.Proofs.Ytnkfboplafckoaa.makes

theorem Fx.far {w wr w' : World} {a b c d e f h : Int} {t : T} {u : Value} {B : Nat} (h1 : Fx w a b c d e f h t u wr) (hB : w.heap.size + 2 < B) (hs : wr.heap.size ≤ w'.heap.size) (hb : Below B wr w') : Fx w a b c d e f h t u w' := by
  obtain ⟨⟨⟨c0, c1, c2, c3, c4, c5, c6⟩, l1, l2, b1⟩, ⟨h2, h3, h5, h6⟩, h4⟩ := h1
  refine ⟨⟨⟨?_, ?_, ?_, ?_, ?_, ?_, ?_⟩, l1, by omega, b1.trans (hb.mono (by omega))⟩, ⟨?_, ?_, ?_, ?_⟩, h4.below hb (by omega)⟩ <;> (rw [hb.cell (by simp; omega)]; assumption)

/-- a round's head of From -/
def FHdE (w : World) (a b c d e f h : Int) (m : Int) (s : ByteArray) (x : T) (r : List T) (bk off cap g : Nat) (i : Value) (wr : World) : Prop := ∃ (j : Nat) (u : Value) (es : List E), j ≤ r.length ∧ i = .int .i64 j ∧ Fx w a b c d e f h (T.mk 5 m s (x :: r)) (.slice (some ⟨bk, off, none⟩) (r.length + 1) cap) wr ∧ Blk wr g 27 #[.bool true, u, .slice none 0 0] ∧ OwnE (g + 1) wr es u ∧ Hid (es.map pe = (r.take j).map toEP)

/-- a round's head of From -/
def FHdK (w : World) (a b c d e f h : Int) (m : Int) (s : ByteArray) (x : T) (r : List T) (bk off cap g : Nat) (i : Value) (wr : World) : Prop := ∃ (j : Nat) (u : Value), j ≤ r.length ∧ i = .int .i64 j ∧ Fx w a b c d e f h (T.mk 5 m s (x :: r)) (.slice (some ⟨bk, off, none⟩) (r.length + 1) cap) wr ∧ Blk wr g 27 #[.bool false, .slice none 0 0, u] ∧ OwnK (g + 1) wr ((r.take j).map toK) u

end Go.Proofs.Ytnkfboplafckoaa.nodes

/- The walk of NodeFroms. -/

namespace Go.Proofs.Ytnkfboplafckoaa.nodes
set_option linter.unusedVariables false
set_option linter.unusedSimpArgs false
open Go.RowKit Go.Proofs.Ytnkfboplafckoaa.base Go.Proofs.Ytnkfboplafckoaa.quotas Go.Proofs.Ytnkfboplafckoaa.vers Go.Proofs.Ytnkfboplafckoaa.tm Go.Proofs.Ytnkfboplafckoaa.lies Go.Proofs.Ytnkfboplafckoaa.copies Go.Proofs.Ytnkfboplafckoaa.makes

/-- behind the law's beginning: the quota's box, the term's -/
def Gx (w : World) (a b c d e f h : Int) (t : T) (u : Value) (wr : World) : Prop :=
  In7 w w.heap.size a b c d e f h wr ∧ (wr.cell? ⟨w.heap.size + 1, 0, none⟩ = some (.int .i64 t.k) ∧ wr.cell? ⟨w.heap.size + 1, 1, none⟩ = some (.int .u64 t.n) ∧ wr.cell? ⟨w.heap.size + 1, 2, none⟩ = some (.string t.s) ∧ wr.cell? ⟨w.heap.size + 1, 3, none⟩ = some u) ∧ w.heap.size + 1 < wr.heap.size
theorem Gx.new (w : World) (a b c d e f h : Int) (t : T) (u : Value) : Gx w a b c d e f h t u ((w.alloc (.cells #[.int .i64 a, .int .i64 b, .int .i64 c, .int .i64 d, .int .i64 e, .int .i64 f, .int .i64 h] 23)).alloc (.cells #[.int .i64 t.k, .int .u64 t.n, .string t.s, u] 31)) := by
  have k1 := Blk.new (w.alloc (.cells #[.int .i64 a, .int .i64 b, .int .i64 c, .int .i64 d, .int .i64 e, .int .i64 f, .int .i64 h] 23)) 31 #[.int .i64 t.k, .int .u64 t.n, .string t.s, u]
  simp only [World.size_alloc] at k1
  exact ⟨(In7.new w a b c d e f h).alloc _, ⟨k1.cell 0, k1.cell 1, k1.cell 2, k1.cell 3⟩, by simp⟩
theorem Gx.next {w wr w' : World} {a b c d e f h : Int} {t : T} {u : Value} (h1 : Gx w a b c d e f h t u wr) (hb : Below wr.heap.size wr w') : Gx w a b c d e f h t u w' := by
  obtain ⟨h1, ⟨h2, h3, h5, h6⟩, h4⟩ := h1
  have hs := hb.size
  refine ⟨h1.next hb, ⟨?_, ?_, ?_, ?_⟩, by omega⟩ <;> (rw [hb.cell (by simp; omega)]; assumption)

end Go.Proofs.Ytnkfboplafckoaa.nodes
