/- The walk of EntryPuts, out of what is asked of the program's own calls. -/
import Derived.Test.YtolngibmfffjcaaVerJ


namespace Go.Proofs.Ytolngibmfffjcaa.vers
set_option linter.unusedVariables false
set_option linter.unusedSimpArgs false
open Go.RowKit Go.Proofs.Ytolngibmfffjcaa.base Go.Proofs.Ytolngibmfffjcaa.quotas

/-- how the program's own Put answers -/
def PutAns (w : World) (r : Ad) (x : Ending) (w' : World) : Prop :=
  ∃ u u', x = .returned (.tuple #[.agg #[.string r.s, u], u', .int .i64 r.bad]) ∧ Below w.heap.size w w' ∧ HV w.heap.size w' r.k u ∧ HV w.heap.size w' r.d u'
def PutIs : Prop := ∀ (a b c d e f h : Int) (s : ByteArray) (l : List V) (A : Option Addr) (cap : Nat) (v t : ByteArray) (w : World), Vs w w.heap.size l A cap → (v.size ≤ maxLen ∧ t.size ≤ maxLen) →
  Calls Try.prog 13 #[.agg #[.int .i64 a, .int .i64 b, .int .i64 c, .int .i64 d, .int .i64 e, .int .i64 f, .int .i64 h], .agg #[.string s, .slice A l.length cap], .string v, .string t] w (PutAns w (addP a b c d e f h s l v t e))
def OverIs : Prop := ∀ (a b c d e f h : Int) (s : ByteArray) (l : List V) (A : Option Addr) (cap : Nat) (v t : ByteArray) (w : World), Vs w w.heap.size l A cap → (v.size ≤ maxLen ∧ t.size ≤ maxLen) →
  Calls Try.prog 15 #[.agg #[.int .i64 a, .int .i64 b, .int .i64 c, .int .i64 d, .int .i64 e, .int .i64 f, .int .i64 h], .agg #[.string s, .slice A l.length cap], .string v, .string t] w (PutAns w (addP a b c d e f h s l v t 1))

theorem HV.next {lo : Nat} {w w' : World} {l : List V} {u : Value} (h : HV lo w l u) (hb : Below w.heap.size w w') : HV lo w' l u := h.move hb.size fun p _ hp => hb.cell hp
theorem HV.alloc {lo : Nat} {w : World} {l : List V} {u : Value} (h : HV lo w l u) (ob : Obj) : HV lo (w.alloc ob) l u := h.next ((Below.refl _ _).alloc (Nat.le_refl _) _)
theorem HV.vs {lo : Nat} {w : World} {l : List V} {A : Option Addr} {n c : Nat} (h : HV lo w l (.slice A n c)) : Vs w w.heap.size l A c := by
  obtain ⟨A', c', e, hv, _⟩ := h
  cases e
  exact hv
/-- a box of an answer of add -/
def ABox (w : World) (g : Nat) (s : ByteArray) (u u' : Value) (n : Int) : Prop := (w.cell? ⟨g, 0, none⟩ = some (.string s) ∧ w.cell? ⟨g, 1, none⟩ = some u ∧ w.cell? ⟨g, 2, none⟩ = some u' ∧ w.cell? ⟨g, 3, none⟩ = some (.int .i64 n)) ∧ g < w.heap.size
theorem ABox.new (w : World) (s : ByteArray) (u u' : Value) (n : Int) : ABox (w.alloc (.cells #[.string s, u, u', .int .i64 n] 33)) w.heap.size s u u' n := by
  have k := Blk.new w 33 #[.string s, u, u', .int .i64 n]
  exact ⟨⟨k.cell 0, k.cell 1, k.cell 2, k.cell 3⟩, by simp⟩
theorem ABox.next {w w' : World} {g : Nat} {s : ByteArray} {u u' : Value} {n : Int} (h : ABox w g s u u' n) (hb : Below w.heap.size w w') : ABox w' g s u u' n := by
  obtain ⟨⟨a, b, c, e⟩, d⟩ := h
  have hs := hb.size
  refine ⟨⟨?_, ?_, ?_, ?_⟩, by omega⟩ <;> (rw [hb.cell (by simpa using d)]; assumption)
theorem ABox.alloc {w : World} {g : Nat} {s : ByteArray} {u u' : Value} {n : Int} (h : ABox w g s u u' n) (ob : Obj) : ABox (w.alloc ob) g s u u' n := h.next ((Below.refl _ _).alloc (Nat.le_refl _) _)
theorem seq {w w1 w2 : World} (h : Below w.heap.size w w1) (k : Below w1.heap.size w1 w2) : Below w.heap.size w w2 := h.trans (k.mono h.size)
theorem dec_true {l : List V} : decide (l = l) = true := decide_eq_true rfl
theorem dec_both {s : ByteArray} {l : List V} : (decide (s = s) && decide (l = l)) = true := by rw [decide_eq_true rfl, decide_eq_true rfl]; rfl

set_option maxRecDepth 100000 in
set_option maxHeartbeats 2000000 in
theorem law_puts (hp : PutIs) (hq : OverIs) (a b c d e f h : Int) (s : ByteArray) (l : List V) (A : Option Addr) (cap : Nat) (v t : ByteArray) (w : World) (hv : Vs w w.heap.size l A cap) (hfit : v.size ≤ maxLen ∧ t.size ≤ maxLen) :
    Calls Try.prog 4 #[.agg #[.int .i64 a, .int .i64 b, .int .i64 c, .int .i64 d, .int .i64 e, .int .i64 f, .int .i64 h], .agg #[.string s, .slice A l.length cap], .string v, .string t] w fun x w' => x = .returned (.bool true) ∧ Below w.heap.size w w' := by
  have E0 := Bx.new w a b c d e f h s (.slice A l.length cap)
  have h1 := fun wr (hb : Below w.heap.size w wr) => hp a b c d e f h s l A cap v t wr (hv.at_world hb) hfit
  have h2 := fun wr (hb : Below w.heap.size w wr) => refPut_any a b c d e f h s l A cap v t wr (hv.at_world hb) hfit
  have h3 := fun wr (hb : Below w.heap.size w wr) => hq a b c d e f h s l A cap v t wr (hv.at_world hb) hfit
  have h4 := fun wr (hb : Below w.heap.size w wr) => refOver_any a b c d e f h s l A cap v t wr (hv.at_world hb) hfit
  generalize addP a b c d e f h s l v t e = p at h1 h2
  generalize addP a b c d e f h s l v t 1 = q at h3 h4
  clear hfit
  go_enter Try.func4, Try.ntmps4
  go_wp2_with fail
  refine (h1 _ E0.below).mono ?_
  rintro z w1 ⟨u1, y1, rfl, hb1, hu1, hy1⟩
  have G1 := E0.next hb1
  clear E0
  obtain ⟨A1, k1, rfl, _⟩ := id hu1
  obtain ⟨D1, m1, rfl, _⟩ := id hy1
  clear hb1
  obtain ⟨⟨⟨c0, c1, c2, c3, c4, c5, c6⟩, l1, l2, b1⟩, ⟨e0, e1⟩, l3⟩ := id G1
  go_wp2_with fail
  have F1 := G1.alloc (.cells #[.string p.s, .slice A1 p.k.length k1] 26)
  have hu1 := hu1.alloc (.cells #[.string p.s, .slice A1 p.k.length k1] 26)
  have hy1 := hy1.alloc (.cells #[.string p.s, .slice A1 p.k.length k1] 26)
  have X1 := EBox.new w1 p.s (.slice A1 p.k.length k1)
  clear G1
  clear c0 c1 c2 c3 c4 c5 c6 l1 l2 b1 e0 e1 l3
  refine (h2 _ F1.below).mono ?_
  rintro z w2 ⟨u2, y2, rfl, hb2, hu2, hy2⟩
  have hu1 := hu1.next hb2
  have hy1 := hy1.next hb2
  have X1 := X1.next hb2
  have G2 := F1.next hb2
  clear F1
  obtain ⟨A2, k2, rfl, _⟩ := id hu2
  obtain ⟨D2, m2, rfl, _⟩ := id hy2
  clear hb2
  obtain ⟨⟨⟨c0, c1, c2, c3, c4, c5, c6⟩, l1, l2, b1⟩, ⟨e0, e1⟩, l3⟩ := id G2
  go_wp2_with fail
  have F2 := G2.alloc (.cells #[.string p.s, .slice A2 p.k.length k2, .slice D2 p.d.length m2, .int .i64 p.bad] 33)
  have hu1 := hu1.alloc (.cells #[.string p.s, .slice A2 p.k.length k2, .slice D2 p.d.length m2, .int .i64 p.bad] 33)
  have hy1 := hy1.alloc (.cells #[.string p.s, .slice A2 p.k.length k2, .slice D2 p.d.length m2, .int .i64 p.bad] 33)
  have X1 := X1.alloc (.cells #[.string p.s, .slice A2 p.k.length k2, .slice D2 p.d.length m2, .int .i64 p.bad] 33)
  have hu2 := hu2.alloc (.cells #[.string p.s, .slice A2 p.k.length k2, .slice D2 p.d.length m2, .int .i64 p.bad] 33)
  have hy2 := hy2.alloc (.cells #[.string p.s, .slice A2 p.k.length k2, .slice D2 p.d.length m2, .int .i64 p.bad] 33)
  have X2 := ABox.new w2 p.s (.slice A2 p.k.length k2) (.slice D2 p.d.length m2) p.bad
  clear G2
  clear c0 c1 c2 c3 c4 c5 c6 l1 l2 b1 e0 e1 l3
  refine (h3 _ F2.below).mono ?_
  rintro z w3 ⟨u3, y3, rfl, hb3, hu3, hy3⟩
  have hu1 := hu1.next hb3
  have hy1 := hy1.next hb3
  have X1 := X1.next hb3
  have hu2 := hu2.next hb3
  have hy2 := hy2.next hb3
  have X2 := X2.next hb3
  have G3 := F2.next hb3
  clear F2
  obtain ⟨A3, k3, rfl, _⟩ := id hu3
  obtain ⟨D3, m3, rfl, _⟩ := id hy3
  clear hb3
  obtain ⟨⟨⟨c0, c1, c2, c3, c4, c5, c6⟩, l1, l2, b1⟩, ⟨e0, e1⟩, l3⟩ := id G3
  go_wp2_with fail
  have F3 := G3.alloc (.cells #[.string q.s, .slice A3 q.k.length k3] 26)
  have hu1 := hu1.alloc (.cells #[.string q.s, .slice A3 q.k.length k3] 26)
  have hy1 := hy1.alloc (.cells #[.string q.s, .slice A3 q.k.length k3] 26)
  have X1 := X1.alloc (.cells #[.string q.s, .slice A3 q.k.length k3] 26)
  have hu2 := hu2.alloc (.cells #[.string q.s, .slice A3 q.k.length k3] 26)
  have hy2 := hy2.alloc (.cells #[.string q.s, .slice A3 q.k.length k3] 26)
  have X2 := X2.alloc (.cells #[.string q.s, .slice A3 q.k.length k3] 26)
  have hu3 := hu3.alloc (.cells #[.string q.s, .slice A3 q.k.length k3] 26)
  have hy3 := hy3.alloc (.cells #[.string q.s, .slice A3 q.k.length k3] 26)
  have X3 := EBox.new w3 q.s (.slice A3 q.k.length k3)
  clear G3
  clear c0 c1 c2 c3 c4 c5 c6 l1 l2 b1 e0 e1 l3
  refine (h4 _ F3.below).mono ?_
  rintro z w4 ⟨u4, y4, rfl, hb4, hu4, hy4⟩
  have hu1 := hu1.next hb4
  have hy1 := hy1.next hb4
  have X1 := X1.next hb4
  have hu2 := hu2.next hb4
  have hy2 := hy2.next hb4
  have X2 := X2.next hb4
  have hu3 := hu3.next hb4
  have hy3 := hy3.next hb4
  have X3 := X3.next hb4
  have G4 := F3.next hb4
  clear F3
  obtain ⟨A4, k4, rfl, _⟩ := id hu4
  obtain ⟨D4, m4, rfl, _⟩ := id hy4
  clear hb4
  obtain ⟨⟨⟨c0, c1, c2, c3, c4, c5, c6⟩, l1, l2, b1⟩, ⟨e0, e1⟩, l3⟩ := id G4
  obtain ⟨⟨x0, x1⟩, x2⟩ := id X1
  obtain ⟨⟨y0, y1, y2, y3⟩, y4⟩ := id X2
  obtain ⟨⟨v0, v1⟩, v2⟩ := id X3
  go_wp2_with fail
  clear x0 x1 x2 y0 y1 y2 y3 y4 v0 v1 v2
  have F4 := G4.alloc (.cells #[.string q.s, .slice A4 q.k.length k4, .slice D4 q.d.length m4, .int .i64 q.bad] 33)
  have hu1 := hu1.alloc (.cells #[.string q.s, .slice A4 q.k.length k4, .slice D4 q.d.length m4, .int .i64 q.bad] 33)
  have hy1 := hy1.alloc (.cells #[.string q.s, .slice A4 q.k.length k4, .slice D4 q.d.length m4, .int .i64 q.bad] 33)
  have X1 := X1.alloc (.cells #[.string q.s, .slice A4 q.k.length k4, .slice D4 q.d.length m4, .int .i64 q.bad] 33)
  have hu2 := hu2.alloc (.cells #[.string q.s, .slice A4 q.k.length k4, .slice D4 q.d.length m4, .int .i64 q.bad] 33)
  have hy2 := hy2.alloc (.cells #[.string q.s, .slice A4 q.k.length k4, .slice D4 q.d.length m4, .int .i64 q.bad] 33)
  have X2 := X2.alloc (.cells #[.string q.s, .slice A4 q.k.length k4, .slice D4 q.d.length m4, .int .i64 q.bad] 33)
  have hu3 := hu3.alloc (.cells #[.string q.s, .slice A4 q.k.length k4, .slice D4 q.d.length m4, .int .i64 q.bad] 33)
  have hy3 := hy3.alloc (.cells #[.string q.s, .slice A4 q.k.length k4, .slice D4 q.d.length m4, .int .i64 q.bad] 33)
  have X3 := X3.alloc (.cells #[.string q.s, .slice A4 q.k.length k4, .slice D4 q.d.length m4, .int .i64 q.bad] 33)
  have hu4 := hu4.alloc (.cells #[.string q.s, .slice A4 q.k.length k4, .slice D4 q.d.length m4, .int .i64 q.bad] 33)
  have hy4 := hy4.alloc (.cells #[.string q.s, .slice A4 q.k.length k4, .slice D4 q.d.length m4, .int .i64 q.bad] 33)
  have X4 := ABox.new w4 q.s (.slice A4 q.k.length k4) (.slice D4 q.d.length m4) q.bad
  clear G4
  clear c0 c1 c2 c3 c4 c5 c6 l1 l2 b1 e0 e1 l3
  have B4 := F4.below
  clear F4
  refine (like_any _ _ _ _ _ _ _ _ _ hu1.vs hu2.vs).mono ?_
  rintro z w5 ⟨rfl, hb5⟩
  have B5 := seq B4 hb5
  have hu1 := hu1.next hb5
  have hy1 := hy1.next hb5
  have hu2 := hu2.next hb5
  have hy2 := hy2.next hb5
  have hu3 := hu3.next hb5
  have hy3 := hy3.next hb5
  have hu4 := hu4.next hb5
  have hy4 := hy4.next hb5
  have X1 := X1.next hb5
  have X2 := X2.next hb5
  have X3 := X3.next hb5
  have X4 := X4.next hb5
  clear hb5 B4
  rw [dec_both]
  obtain ⟨⟨x0, x1⟩, x2⟩ := id X1
  obtain ⟨⟨y0, y1, y2, y3⟩, y4⟩ := id X2
  obtain ⟨⟨v0, v1⟩, v2⟩ := id X3
  obtain ⟨⟨z0, z1, z2, z3⟩, z4⟩ := id X4
  go_wp2_with fail
  clear x0 x1 x2 y0 y1 y2 y3 y4 v0 v1 v2 z0 z1 z2 z3 z4
  refine (likeVs_any _ _ _ _ _ _ _ hy1.vs hy2.vs).mono ?_
  rintro z w6 ⟨rfl, hb6⟩
  have B6 := seq B5 hb6
  have hu1 := hu1.next hb6
  have hy1 := hy1.next hb6
  have hu2 := hu2.next hb6
  have hy2 := hy2.next hb6
  have hu3 := hu3.next hb6
  have hy3 := hy3.next hb6
  have hu4 := hu4.next hb6
  have hy4 := hy4.next hb6
  have X1 := X1.next hb6
  have X2 := X2.next hb6
  have X3 := X3.next hb6
  have X4 := X4.next hb6
  clear hb6 B5
  rw [dec_true]
  obtain ⟨⟨x0, x1⟩, x2⟩ := id X1
  obtain ⟨⟨y0, y1, y2, y3⟩, y4⟩ := id X2
  obtain ⟨⟨v0, v1⟩, v2⟩ := id X3
  obtain ⟨⟨z0, z1, z2, z3⟩, z4⟩ := id X4
  go_wp2_with fail
  clear x0 x1 x2 y0 y1 y2 y3 y4 v0 v1 v2 z0 z1 z2 z3 z4
  refine (like_any _ _ _ _ _ _ _ _ _ hu3.vs hu4.vs).mono ?_
  rintro z w7 ⟨rfl, hb7⟩
  have B7 := seq B6 hb7
  have hu1 := hu1.next hb7
  have hy1 := hy1.next hb7
  have hu2 := hu2.next hb7
  have hy2 := hy2.next hb7
  have hu3 := hu3.next hb7
  have hy3 := hy3.next hb7
  have hu4 := hu4.next hb7
  have hy4 := hy4.next hb7
  have X1 := X1.next hb7
  have X2 := X2.next hb7
  have X3 := X3.next hb7
  have X4 := X4.next hb7
  clear hb7 B6
  rw [dec_both]
  obtain ⟨⟨x0, x1⟩, x2⟩ := id X1
  obtain ⟨⟨y0, y1, y2, y3⟩, y4⟩ := id X2
  obtain ⟨⟨v0, v1⟩, v2⟩ := id X3
  obtain ⟨⟨z0, z1, z2, z3⟩, z4⟩ := id X4
  go_wp2_with fail
  clear x0 x1 x2 y0 y1 y2 y3 y4 v0 v1 v2 z0 z1 z2 z3 z4
  refine (likeVs_any _ _ _ _ _ _ _ hy3.vs hy4.vs).mono ?_
  rintro z w8 ⟨rfl, hb8⟩
  have B8 := seq B7 hb8
  have hu1 := hu1.next hb8
  have hy1 := hy1.next hb8
  have hu2 := hu2.next hb8
  have hy2 := hy2.next hb8
  have hu3 := hu3.next hb8
  have hy3 := hy3.next hb8
  have hu4 := hu4.next hb8
  have hy4 := hy4.next hb8
  have X1 := X1.next hb8
  have X2 := X2.next hb8
  have X3 := X3.next hb8
  have X4 := X4.next hb8
  clear hb8 B7
  rw [dec_true]
  obtain ⟨⟨x0, x1⟩, x2⟩ := id X1
  obtain ⟨⟨y0, y1, y2, y3⟩, y4⟩ := id X2
  obtain ⟨⟨v0, v1⟩, v2⟩ := id X3
  obtain ⟨⟨z0, z1, z2, z3⟩, z4⟩ := id X4
  go_wp2_with fail
  go_ret
  exact ⟨rfl, B8⟩
end Go.Proofs.Ytolngibmfffjcaa.vers
