/- What letheref06's isNum, version and isKid answer. -/
import Derived.Test.YtanfjnahdnafnaaNdQ


namespace Go.Proofs.Ytanfjnahdnafnaa.nodes
set_option linter.unusedVariables false
set_option linter.unusedSimpArgs false
open Go.RowKit Go.Proofs.Ytanfjnahdnafnaa.base Go.Proofs.Ytanfjnahdnafnaa.quotas Go.Proofs.Ytanfjnahdnafnaa.vers Go.Proofs.Ytanfjnahdnafnaa.tm Go.Proofs.Ytanfjnahdnafnaa.lies Go.Proofs.Ytanfjnahdnafnaa.copies Go.Proofs.Ytanfjnahdnafnaa.makes

/-- the four cells of a term at a place -/
def P4 (w : World) (b o : Nat) (t : T) (u : Value) : Prop := w.cell? ⟨b, o, none⟩ = some (.int .i64 t.k) ∧ w.cell? ⟨b, o + 1, none⟩ = some (.int .u64 t.n) ∧ w.cell? ⟨b, o + 2, none⟩ = some (.string t.s) ∧ w.cell? ⟨b, o + 3, none⟩ = some u
theorem P4.next {w w' : World} {b o : Nat} {t : T} {u : Value} {B : Nat} (h : P4 w b o t u) (hb : Below B w w') (hB : b < B) : P4 w' b o t u := by
  obtain ⟨h1, h2, h3, h4⟩ := h
  refine ⟨?_, ?_, ?_, ?_⟩ <;> (rw [hb.cell (by simpa using hB)]; assumption)
/-- a box of the call's own that holds a term -/
theorem P4.new (w : World) (t : T) (u : Value) : P4 (w.alloc (.cells #[.int .i64 t.k, .int .u64 t.n, .string t.s, u] 38)) w.heap.size 0 t u := by
  have k := Blk.new w 38 #[.int .i64 t.k, .int .u64 t.n, .string t.s, u]
  exact ⟨k.cell 0, k.cell 1, k.cell 2, k.cell 3⟩
theorem P4.at0 {w : World} {b : Nat} {t : T} {u : Value} (h : P4 w b 0 t u) : w.cell? ⟨b, 0, none⟩ = some (.int .i64 t.k) ∧ w.cell? ⟨b, 1, none⟩ = some (.int .u64 t.n) ∧ w.cell? ⟨b, 2, none⟩ = some (.string t.s) ∧ w.cell? ⟨b, 3, none⟩ = some u := by simpa [P4] using h
/-- the j-th of a list that lies in memory -/
theorem S_at {w : World} {B : Nat} {l : List T} {A : Option Addr} {c : Nat} (h : LiesS w B l A c) {j : Nat} (hj : j < l.length) :
    ∃ b off A' c', A = some ⟨b, off, none⟩ ∧ b < B ∧ Lies w B l[j] (.slice A' l[j].l.length c') ∧ P4 w b (off + j * 4) l[j] (.slice A' l[j].l.length c') := by
  obtain ⟨xs, _, _, hr, hL⟩ := h
  obtain ⟨b, off, A', c', e, hb, hl, h0, h1, h2, h3⟩ := at_cells hr hL hj
  exact ⟨b, off, A', c', e, hb, hl, h0, h1, h2, h3⟩
theorem S_keep {w w' : World} {B : Nat} {l : List T} {A : Option Addr} {c : Nat} (h : LiesS w B l A c) (hb : Below B w w') : LiesS w' B l A c := by
  obtain ⟨xs, h1, h2, h3, h4⟩ := h
  exact ⟨xs, h1, h2, h3.below hb, h4.below hb⟩
theorem S_more {w : World} {B B' : Nat} {l : List T} {A : Option Addr} {c : Nat} (h : LiesS w B l A c) (hB : B ≤ B') : LiesS w B' l A c := by
  obtain ⟨xs, h1, h2, h3, h4⟩ := h
  exact ⟨xs, h1, h2, h3.more hB, LiesL.more hB _ _ h4⟩
theorem S_world {w wr : World} {l : List T} {A : Option Addr} {c : Nat} (h : LiesS w w.heap.size l A c) (hb : Below w.heap.size w wr) : LiesS wr wr.heap.size l A c := S_more (S_keep h hb) hb.size
theorem S_of {w : World} {B : Nat} {t : T} {A : Option Addr} {n c : Nat} (h : Lies w B t (.slice A n c)) : LiesS w B t.l A c ∧ n = t.l.length := by
  obtain ⟨A', c', xs, e, _, _, _, h1, h2, h3, h4⟩ := h.open_
  cases e
  exact ⟨⟨xs, h1, h2, h3, h4⟩, rfl⟩

/-- the cells of a list of 3 -/
def L3 (w : World) (b off : Nat) (x0 x1 x2 : T) (u0 u1 u2 : Value) : Prop := P4 w b off x0 u0 ∧ P4 w b (off + 4) x1 u1 ∧ P4 w b (off + 8) x2 u2
theorem L3.next {w w' : World} {b off B : Nat} {x0 x1 x2 : T} {u0 u1 u2 : Value} (h : L3 w b off x0 x1 x2 u0 u1 u2) (hb : Below B w w') (hB : b < B) : L3 w' b off x0 x1 x2 u0 u1 u2 := by
  obtain ⟨h0, h1, h2⟩ := h
  exact ⟨h0.next hb hB, h1.next hb hB, h2.next hb hB⟩
theorem S_3 {w : World} {B : Nat} {x0 x1 x2 : T} {A : Option Addr} {c : Nat} (h : LiesS w B [x0, x1, x2] A c) : ∃ b off u0 u1 u2, A = some ⟨b, off, none⟩ ∧ b < B ∧ L3 w b off x0 x1 x2 u0 u1 u2 := by
  obtain ⟨b0, o0, A0, c0, e0, hb0, _, p0⟩ := S_at h (j := 0) (by simp)
  obtain ⟨b1, o1, A1, c1, e1, hb1, _, p1⟩ := S_at h (j := 1) (by simp)
  obtain ⟨b2, o2, A2, c2, e2, hb2, _, p2⟩ := S_at h (j := 2) (by simp)
  subst e0
  cases e1
  cases e2
  simp only [Nat.zero_mul, Nat.add_zero] at p0
  exact ⟨_, _, _, _, _, rfl, hb0, p0, p1, p2⟩

/-- the cells of a list of 5 -/
def L5 (w : World) (b off : Nat) (x0 x1 x2 x3 x4 : T) (u0 u1 u2 u3 u4 : Value) : Prop := P4 w b off x0 u0 ∧ P4 w b (off + 4) x1 u1 ∧ P4 w b (off + 8) x2 u2 ∧ P4 w b (off + 12) x3 u3 ∧ P4 w b (off + 16) x4 u4
theorem L5.next {w w' : World} {b off B : Nat} {x0 x1 x2 x3 x4 : T} {u0 u1 u2 u3 u4 : Value} (h : L5 w b off x0 x1 x2 x3 x4 u0 u1 u2 u3 u4) (hb : Below B w w') (hB : b < B) : L5 w' b off x0 x1 x2 x3 x4 u0 u1 u2 u3 u4 := by
  obtain ⟨h0, h1, h2, h3, h4⟩ := h
  exact ⟨h0.next hb hB, h1.next hb hB, h2.next hb hB, h3.next hb hB, h4.next hb hB⟩
theorem S_5 {w : World} {B : Nat} {x0 x1 x2 x3 x4 : T} {A : Option Addr} {c : Nat} (h : LiesS w B [x0, x1, x2, x3, x4] A c) : ∃ b off u0 u1 u2 u3 u4, A = some ⟨b, off, none⟩ ∧ b < B ∧ L5 w b off x0 x1 x2 x3 x4 u0 u1 u2 u3 u4 := by
  obtain ⟨b0, o0, A0, c0, e0, hb0, _, p0⟩ := S_at h (j := 0) (by simp)
  obtain ⟨b1, o1, A1, c1, e1, hb1, _, p1⟩ := S_at h (j := 1) (by simp)
  obtain ⟨b2, o2, A2, c2, e2, hb2, _, p2⟩ := S_at h (j := 2) (by simp)
  obtain ⟨b3, o3, A3, c3, e3, hb3, _, p3⟩ := S_at h (j := 3) (by simp)
  obtain ⟨b4, o4, A4, c4, e4, hb4, _, p4⟩ := S_at h (j := 4) (by simp)
  subst e0
  cases e1
  cases e2
  cases e3
  cases e4
  simp only [Nat.zero_mul, Nat.add_zero] at p0
  exact ⟨_, _, _, _, _, _, _, rfl, hb0, p0, p1, p2, p3, p4⟩

set_option maxRecDepth 100000 in
set_option maxHeartbeats 1000000 in
theorem isNum_any (t : T) (u : Value) (w : World) :
    Calls Try.prog 108 #[.agg #[.int .i64 t.k, .int .u64 t.n, .string t.s, u]] w fun e w' => e = .returned (.bool (numB t)) ∧ Below w.heap.size w w' := by
  by_cases g1 : t.k = 1
  · have d1 : (t.k == 1) = true := by simp [g1]
    by_cases g2 : t.n ≤ 2147483647
    · have d2 : decide (t.n ≤ 2147483647) = true := decide_eq_true g2
      rw [show numB t = true by unfold numB; rw [decide_eq_true g1, d2]; rfl]
      clear g1 g2
      go_enter Try.func108, Try.ntmps108
      go_wp2_with fail
      go_ret
      exact ⟨rfl, (Below.refl _ _).alloc (Nat.le_refl _) _⟩
    · have d2 : decide (t.n ≤ 2147483647) = false := decide_eq_false g2
      rw [show numB t = false by unfold numB; rw [d2, Bool.and_false]]
      clear g1 g2
      go_enter Try.func108, Try.ntmps108
      go_wp2_with fail
      go_ret
      exact ⟨rfl, (Below.refl _ _).alloc (Nat.le_refl _) _⟩
  · have d1 : (t.k == 1) = false := by simpa using g1
    rw [show numB t = false by unfold numB; rw [decide_eq_false g1]; rfl]
    clear g1
    go_enter Try.func108, Try.ntmps108
    go_wp2_with fail
    go_ret
    exact ⟨rfl, (Below.refl _ _).alloc (Nat.le_refl _) _⟩

set_option maxRecDepth 100000 in
set_option maxHeartbeats 1000000 in
theorem version_no1 (t : T) (u : Value) (w : World) (hk : ¬ t.k = 5) :
    Calls Try.prog 107 #[.agg #[.int .i64 t.k, .int .u64 t.n, .string t.s, u]] w fun e w' => e = .returned (.bool false) ∧ Below w.heap.size w w' := by
  have d1 : (t.k == 5) = false := by simpa using hk
  clear hk
  go_enter Try.func107, Try.ntmps107
  go_wp2_with fail
  go_ret
  exact ⟨rfl, (Below.refl _ _).alloc (Nat.le_refl _) _⟩

set_option maxRecDepth 100000 in
set_option maxHeartbeats 1000000 in
theorem version_no2 (k0 : Int) (s : ByteArray) (k : Int) (A : Option Addr) (nl c : Nat) (w : World) (hk : k = 5) (hn : ¬ nl = 3) (hm : nl ≤ 140737488355328) :
    Calls Try.prog 107 #[.agg #[.int .i64 k, .int .u64 k0, .string s, .slice A nl c]] w fun e w' => e = .returned (.bool false) ∧ Below w.heap.size w w' := by
  have d1 : (k == 5) = true := by simp [hk]
  have d2 : ((nl : Int) == 3) = false := by simp; omega
  clear hk
  go_enter Try.func107, Try.ntmps107
  go_wp2_with fail
  go_ret
  exact ⟨rfl, (Below.refl _ _).alloc (Nat.le_refl _) _⟩

/-- behind the beginning: the term's box, the cells of its list -/
def LSt3 (w : World) (t : T) (u : Value) (b off : Nat) (x0 x1 x2 : T) (u0 u1 u2 : Value) (wr : World) : Prop := (wr.cell? ⟨w.heap.size, 0, none⟩ = some (.int .i64 t.k) ∧ wr.cell? ⟨w.heap.size, 1, none⟩ = some (.int .u64 t.n) ∧ wr.cell? ⟨w.heap.size, 2, none⟩ = some (.string t.s) ∧ wr.cell? ⟨w.heap.size, 3, none⟩ = some u) ∧ L3 wr b off x0 x1 x2 u0 u1 u2 ∧ Below w.heap.size w wr ∧ b < w.heap.size ∧ w.heap.size < wr.heap.size
theorem LSt3.new {w : World} {b off : Nat} {x0 x1 x2 : T} {u0 u1 u2 : Value} (t : T) (u : Value) (h : L3 w b off x0 x1 x2 u0 u1 u2) (hb : b < w.heap.size) : LSt3 w t u b off x0 x1 x2 u0 u1 u2 (w.alloc (.cells #[.int .i64 t.k, .int .u64 t.n, .string t.s, u] 38)) :=
  ⟨(P4.new w t u).at0, h.next ((Below.refl w.heap.size w).alloc (Nat.le_refl _) _) hb, (Below.refl _ _).alloc (Nat.le_refl _) _, hb, by simp⟩
theorem LSt3.next {w wr w' : World} {t : T} {u : Value} {b off : Nat} {x0 x1 x2 : T} {u0 u1 u2 : Value} (h : LSt3 w t u b off x0 x1 x2 u0 u1 u2 wr) (hb : Below wr.heap.size wr w') : LSt3 w t u b off x0 x1 x2 u0 u1 u2 w' := by
  obtain ⟨⟨h0, h1, h2, h3⟩, hl, hw, hbb, hs⟩ := h
  have hz := hb.size
  refine ⟨⟨?_, ?_, ?_, ?_⟩, hl.next hb (by omega), hw.trans (hb.mono hw.size), hbb, by omega⟩ <;> (rw [hb.cell (by simpa using hs)]; assumption)

set_option maxRecDepth 100000 in
set_option maxHeartbeats 1000000 in
theorem version_go (k0 : Int) (s : ByteArray) (x0 x1 x2 : T) (b off c : Nat) (u0 u1 u2 : Value) (w : World) (hb : b < w.heap.size) (hl : L3 w b off x0 x1 x2 u0 u1 u2) :
    Calls Try.prog 107 #[.agg #[.int .i64 5, .int .u64 k0, .string s, .slice (some ⟨b, off, none⟩) 3 c]] w fun e w' => e = .returned (.bool (numB x0 && decide (x1.k = 2) && decide (x2.k = 2))) ∧ Below w.heap.size w w' := by
  have I0 := LSt3.new (.mk 5 k0 s []) (.slice (some ⟨b, off, none⟩) 3 c) hl hb
  simp only [T.k, T.n, T.s] at I0
  have c0 := fun wx => isNum_any x0 u0 wx
  have O0 := I0
  obtain ⟨⟨y0, y1, y2, y3⟩, ⟨⟨a00, a01, a02, a03⟩, ⟨a10, a11, a12, a13⟩, ⟨a20, a21, a22, a23⟩⟩, bw, hb0⟩ := O0
  simp only [T.k, T.n, T.s] at y0 y1 y2
  by_cases g0 : numB x0 = true
  rotate_left
  · rw [show numB x0 = false by simpa using g0] at c0
    have hB : (numB x0 && decide (x1.k = 2) && decide (x2.k = 2)) = false := by simp [g0]
    rw [hB]
    clear hB g0 hl hb
    go_enter Try.func107, Try.ntmps107
    go_wp2_with fail
    refine (c0 _).mono ?_
    rintro e w1 ⟨rfl, hb1⟩
    have I1 := LSt3.next I0 hb1
    clear hb1
    clear y0 y1 y2 y3 a00 a01 a02 a03 a10 a11 a12 a13 a20 a21 a22 a23 bw hb0
    have O1 := I1
    obtain ⟨⟨y0, y1, y2, y3⟩, ⟨⟨a00, a01, a02, a03⟩, ⟨a10, a11, a12, a13⟩, ⟨a20, a21, a22, a23⟩⟩, bw, hb0⟩ := O1
    simp only [T.k, T.n, T.s] at y0 y1 y2
    go_wp2_with fail
    go_ret
    exact ⟨rfl, I1.2.2.1⟩
  rw [g0] at c0
  by_cases g1 : x1.k = 2
  rotate_left
  · have e1 : (x1.k == 2) = false := by simpa using g1
    have hB : (numB x0 && decide (x1.k = 2) && decide (x2.k = 2)) = false := by simp [g1]
    rw [hB]
    clear hB g1 hl hb
    go_enter Try.func107, Try.ntmps107
    go_wp2_with fail
    refine (c0 _).mono ?_
    rintro e w1 ⟨rfl, hb1⟩
    have I1 := LSt3.next I0 hb1
    clear hb1
    clear y0 y1 y2 y3 a00 a01 a02 a03 a10 a11 a12 a13 a20 a21 a22 a23 bw hb0
    have O1 := I1
    obtain ⟨⟨y0, y1, y2, y3⟩, ⟨⟨a00, a01, a02, a03⟩, ⟨a10, a11, a12, a13⟩, ⟨a20, a21, a22, a23⟩⟩, bw, hb0⟩ := O1
    simp only [T.k, T.n, T.s] at y0 y1 y2
    go_wp2_with fail
    go_ret
    exact ⟨rfl, I1.2.2.1⟩
  have e1 : (x1.k == 2) = true := by simp [g1]
  by_cases g2 : x2.k = 2
  rotate_left
  · have e2 : (x2.k == 2) = false := by simpa using g2
    have hB : (numB x0 && decide (x1.k = 2) && decide (x2.k = 2)) = false := by simp [g2]
    rw [hB]
    clear hB g2 hl hb
    go_enter Try.func107, Try.ntmps107
    go_wp2_with fail
    refine (c0 _).mono ?_
    rintro e w1 ⟨rfl, hb1⟩
    have I1 := LSt3.next I0 hb1
    clear hb1
    clear y0 y1 y2 y3 a00 a01 a02 a03 a10 a11 a12 a13 a20 a21 a22 a23 bw hb0
    have O1 := I1
    obtain ⟨⟨y0, y1, y2, y3⟩, ⟨⟨a00, a01, a02, a03⟩, ⟨a10, a11, a12, a13⟩, ⟨a20, a21, a22, a23⟩⟩, bw, hb0⟩ := O1
    simp only [T.k, T.n, T.s] at y0 y1 y2
    go_wp2_with fail
    go_ret
    exact ⟨rfl, I1.2.2.1⟩
  have e2 : (x2.k == 2) = true := by simp [g2]
  have hB : (numB x0 && decide (x1.k = 2) && decide (x2.k = 2)) = true := by simp [g0, g1, g2]
  rw [hB]
  clear hB g0 g1 g2 hl hb
  go_enter Try.func107, Try.ntmps107
  go_wp2_with fail
  refine (c0 _).mono ?_
  rintro e w1 ⟨rfl, hb1⟩
  have I1 := LSt3.next I0 hb1
  clear hb1
  clear y0 y1 y2 y3 a00 a01 a02 a03 a10 a11 a12 a13 a20 a21 a22 a23 bw hb0
  have O1 := I1
  obtain ⟨⟨y0, y1, y2, y3⟩, ⟨⟨a00, a01, a02, a03⟩, ⟨a10, a11, a12, a13⟩, ⟨a20, a21, a22, a23⟩⟩, bw, hb0⟩ := O1
  simp only [T.k, T.n, T.s] at y0 y1 y2
  go_wp2_with fail
  go_ret
  exact ⟨rfl, I1.2.2.1⟩

set_option maxRecDepth 100000 in
set_option maxHeartbeats 1000000 in
theorem isKid_no1 (t : T) (u : Value) (w : World) (hk : ¬ t.k = 5) :
    Calls Try.prog 87 #[.agg #[.int .i64 t.k, .int .u64 t.n, .string t.s, u]] w fun e w' => e = .returned (.bool false) ∧ Below w.heap.size w w' := by
  have d1 : (t.k == 5) = false := by simpa using hk
  clear hk
  go_enter Try.func87, Try.ntmps87
  go_wp2_with fail
  go_ret
  exact ⟨rfl, (Below.refl _ _).alloc (Nat.le_refl _) _⟩

set_option maxRecDepth 100000 in
set_option maxHeartbeats 1000000 in
theorem isKid_no2 (k0 : Int) (s : ByteArray) (k : Int) (A : Option Addr) (nl c : Nat) (w : World) (hk : k = 5) (hn : ¬ nl = 5) (hm : nl ≤ 140737488355328) :
    Calls Try.prog 87 #[.agg #[.int .i64 k, .int .u64 k0, .string s, .slice A nl c]] w fun e w' => e = .returned (.bool false) ∧ Below w.heap.size w w' := by
  have d1 : (k == 5) = true := by simp [hk]
  have d2 : ((nl : Int) == 5) = false := by simp; omega
  clear hk
  go_enter Try.func87, Try.ntmps87
  go_wp2_with fail
  go_ret
  exact ⟨rfl, (Below.refl _ _).alloc (Nat.le_refl _) _⟩

/-- behind the beginning: the term's box, the cells of its list -/
def LSt5 (w : World) (t : T) (u : Value) (b off : Nat) (x0 x1 x2 x3 x4 : T) (u0 u1 u2 u3 u4 : Value) (wr : World) : Prop := (wr.cell? ⟨w.heap.size, 0, none⟩ = some (.int .i64 t.k) ∧ wr.cell? ⟨w.heap.size, 1, none⟩ = some (.int .u64 t.n) ∧ wr.cell? ⟨w.heap.size, 2, none⟩ = some (.string t.s) ∧ wr.cell? ⟨w.heap.size, 3, none⟩ = some u) ∧ L5 wr b off x0 x1 x2 x3 x4 u0 u1 u2 u3 u4 ∧ Below w.heap.size w wr ∧ b < w.heap.size ∧ w.heap.size < wr.heap.size
theorem LSt5.new {w : World} {b off : Nat} {x0 x1 x2 x3 x4 : T} {u0 u1 u2 u3 u4 : Value} (t : T) (u : Value) (h : L5 w b off x0 x1 x2 x3 x4 u0 u1 u2 u3 u4) (hb : b < w.heap.size) : LSt5 w t u b off x0 x1 x2 x3 x4 u0 u1 u2 u3 u4 (w.alloc (.cells #[.int .i64 t.k, .int .u64 t.n, .string t.s, u] 38)) :=
  ⟨(P4.new w t u).at0, h.next ((Below.refl w.heap.size w).alloc (Nat.le_refl _) _) hb, (Below.refl _ _).alloc (Nat.le_refl _) _, hb, by simp⟩
theorem LSt5.next {w wr w' : World} {t : T} {u : Value} {b off : Nat} {x0 x1 x2 x3 x4 : T} {u0 u1 u2 u3 u4 : Value} (h : LSt5 w t u b off x0 x1 x2 x3 x4 u0 u1 u2 u3 u4 wr) (hb : Below wr.heap.size wr w') : LSt5 w t u b off x0 x1 x2 x3 x4 u0 u1 u2 u3 u4 w' := by
  obtain ⟨⟨h0, h1, h2, h3⟩, hl, hw, hbb, hs⟩ := h
  have hz := hb.size
  refine ⟨⟨?_, ?_, ?_, ?_⟩, hl.next hb (by omega), hw.trans (hb.mono hw.size), hbb, by omega⟩ <;> (rw [hb.cell (by simpa using hs)]; assumption)

set_option maxRecDepth 100000 in
set_option maxHeartbeats 1000000 in
theorem isKid_go (k0 : Int) (s : ByteArray) (x0 x1 x2 x3 x4 : T) (b off c : Nat) (u0 u1 u2 u3 u4 : Value) (w : World) (hb : b < w.heap.size) (hl : L5 w b off x0 x1 x2 x3 x4 u0 u1 u2 u3 u4) :
    Calls Try.prog 87 #[.agg #[.int .i64 5, .int .u64 k0, .string s, .slice (some ⟨b, off, none⟩) 5 c]] w fun e w' => e = .returned (.bool (decide (x0.k = 2) && decide (x1.k = 3) && numB x2 && numB x3 && numB x4)) ∧ Below w.heap.size w w' := by
  have I0 := LSt5.new (.mk 5 k0 s []) (.slice (some ⟨b, off, none⟩) 5 c) hl hb
  simp only [T.k, T.n, T.s] at I0
  have c2 := fun wx => isNum_any x2 u2 wx
  have c3 := fun wx => isNum_any x3 u3 wx
  have c4 := fun wx => isNum_any x4 u4 wx
  have O0 := I0
  obtain ⟨⟨y0, y1, y2, y3⟩, ⟨⟨a00, a01, a02, a03⟩, ⟨a10, a11, a12, a13⟩, ⟨a20, a21, a22, a23⟩, ⟨a30, a31, a32, a33⟩, ⟨a40, a41, a42, a43⟩⟩, bw, hb0⟩ := O0
  simp only [T.k, T.n, T.s] at y0 y1 y2
  by_cases g0 : x0.k = 2
  rotate_left
  · have e0 : (x0.k == 2) = false := by simpa using g0
    have hB : (decide (x0.k = 2) && decide (x1.k = 3) && numB x2 && numB x3 && numB x4) = false := by simp [g0]
    rw [hB]
    clear hB g0 hl hb
    go_enter Try.func87, Try.ntmps87
    go_wp2_with fail
    go_ret
    exact ⟨rfl, I0.2.2.1⟩
  have e0 : (x0.k == 2) = true := by simp [g0]
  by_cases g1 : x1.k = 3
  rotate_left
  · have e1 : (x1.k == 3) = false := by simpa using g1
    have hB : (decide (x0.k = 2) && decide (x1.k = 3) && numB x2 && numB x3 && numB x4) = false := by simp [g1]
    rw [hB]
    clear hB g1 hl hb
    go_enter Try.func87, Try.ntmps87
    go_wp2_with fail
    go_ret
    exact ⟨rfl, I0.2.2.1⟩
  have e1 : (x1.k == 3) = true := by simp [g1]
  by_cases g2 : numB x2 = true
  rotate_left
  · rw [show numB x2 = false by simpa using g2] at c2
    have hB : (decide (x0.k = 2) && decide (x1.k = 3) && numB x2 && numB x3 && numB x4) = false := by simp [g2]
    rw [hB]
    clear hB g2 hl hb
    go_enter Try.func87, Try.ntmps87
    go_wp2_with fail
    refine (c2 _).mono ?_
    rintro e w1 ⟨rfl, hb1⟩
    have I1 := LSt5.next I0 hb1
    clear hb1
    clear y0 y1 y2 y3 a00 a01 a02 a03 a10 a11 a12 a13 a20 a21 a22 a23 a30 a31 a32 a33 a40 a41 a42 a43 bw hb0
    have O1 := I1
    obtain ⟨⟨y0, y1, y2, y3⟩, ⟨⟨a00, a01, a02, a03⟩, ⟨a10, a11, a12, a13⟩, ⟨a20, a21, a22, a23⟩, ⟨a30, a31, a32, a33⟩, ⟨a40, a41, a42, a43⟩⟩, bw, hb0⟩ := O1
    simp only [T.k, T.n, T.s] at y0 y1 y2
    go_wp2_with fail
    go_ret
    exact ⟨rfl, I1.2.2.1⟩
  rw [g2] at c2
  by_cases g3 : numB x3 = true
  rotate_left
  · rw [show numB x3 = false by simpa using g3] at c3
    have hB : (decide (x0.k = 2) && decide (x1.k = 3) && numB x2 && numB x3 && numB x4) = false := by simp [g3]
    rw [hB]
    clear hB g3 hl hb
    go_enter Try.func87, Try.ntmps87
    go_wp2_with fail
    refine (c2 _).mono ?_
    rintro e w1 ⟨rfl, hb1⟩
    have I1 := LSt5.next I0 hb1
    clear hb1
    clear y0 y1 y2 y3 a00 a01 a02 a03 a10 a11 a12 a13 a20 a21 a22 a23 a30 a31 a32 a33 a40 a41 a42 a43 bw hb0
    have O1 := I1
    obtain ⟨⟨y0, y1, y2, y3⟩, ⟨⟨a00, a01, a02, a03⟩, ⟨a10, a11, a12, a13⟩, ⟨a20, a21, a22, a23⟩, ⟨a30, a31, a32, a33⟩, ⟨a40, a41, a42, a43⟩⟩, bw, hb0⟩ := O1
    simp only [T.k, T.n, T.s] at y0 y1 y2
    go_wp2_with fail
    refine (c3 _).mono ?_
    rintro e w2 ⟨rfl, hb2⟩
    have I2 := LSt5.next I1 hb2
    clear hb2
    clear y0 y1 y2 y3 a00 a01 a02 a03 a10 a11 a12 a13 a20 a21 a22 a23 a30 a31 a32 a33 a40 a41 a42 a43 bw hb0
    have O2 := I2
    obtain ⟨⟨y0, y1, y2, y3⟩, ⟨⟨a00, a01, a02, a03⟩, ⟨a10, a11, a12, a13⟩, ⟨a20, a21, a22, a23⟩, ⟨a30, a31, a32, a33⟩, ⟨a40, a41, a42, a43⟩⟩, bw, hb0⟩ := O2
    simp only [T.k, T.n, T.s] at y0 y1 y2
    go_wp2_with fail
    go_ret
    exact ⟨rfl, I2.2.2.1⟩
  rw [g3] at c3
  by_cases g4 : numB x4 = true
  rotate_left
  · rw [show numB x4 = false by simpa using g4] at c4
    have hB : (decide (x0.k = 2) && decide (x1.k = 3) && numB x2 && numB x3 && numB x4) = false := by simp [g4]
    rw [hB]
    clear hB g4 hl hb
    go_enter Try.func87, Try.ntmps87
    go_wp2_with fail
    refine (c2 _).mono ?_
    rintro e w1 ⟨rfl, hb1⟩
    have I1 := LSt5.next I0 hb1
    clear hb1
    clear y0 y1 y2 y3 a00 a01 a02 a03 a10 a11 a12 a13 a20 a21 a22 a23 a30 a31 a32 a33 a40 a41 a42 a43 bw hb0
    have O1 := I1
    obtain ⟨⟨y0, y1, y2, y3⟩, ⟨⟨a00, a01, a02, a03⟩, ⟨a10, a11, a12, a13⟩, ⟨a20, a21, a22, a23⟩, ⟨a30, a31, a32, a33⟩, ⟨a40, a41, a42, a43⟩⟩, bw, hb0⟩ := O1
    simp only [T.k, T.n, T.s] at y0 y1 y2
    go_wp2_with fail
    refine (c3 _).mono ?_
    rintro e w2 ⟨rfl, hb2⟩
    have I2 := LSt5.next I1 hb2
    clear hb2
    clear y0 y1 y2 y3 a00 a01 a02 a03 a10 a11 a12 a13 a20 a21 a22 a23 a30 a31 a32 a33 a40 a41 a42 a43 bw hb0
    have O2 := I2
    obtain ⟨⟨y0, y1, y2, y3⟩, ⟨⟨a00, a01, a02, a03⟩, ⟨a10, a11, a12, a13⟩, ⟨a20, a21, a22, a23⟩, ⟨a30, a31, a32, a33⟩, ⟨a40, a41, a42, a43⟩⟩, bw, hb0⟩ := O2
    simp only [T.k, T.n, T.s] at y0 y1 y2
    go_wp2_with fail
    refine (c4 _).mono ?_
    rintro e w3 ⟨rfl, hb3⟩
    have I3 := LSt5.next I2 hb3
    clear hb3
    clear y0 y1 y2 y3 a00 a01 a02 a03 a10 a11 a12 a13 a20 a21 a22 a23 a30 a31 a32 a33 a40 a41 a42 a43 bw hb0
    have O3 := I3
    obtain ⟨⟨y0, y1, y2, y3⟩, ⟨⟨a00, a01, a02, a03⟩, ⟨a10, a11, a12, a13⟩, ⟨a20, a21, a22, a23⟩, ⟨a30, a31, a32, a33⟩, ⟨a40, a41, a42, a43⟩⟩, bw, hb0⟩ := O3
    simp only [T.k, T.n, T.s] at y0 y1 y2
    go_wp2_with fail
    go_ret
    exact ⟨rfl, I3.2.2.1⟩
  rw [g4] at c4
  have hB : (decide (x0.k = 2) && decide (x1.k = 3) && numB x2 && numB x3 && numB x4) = true := by simp [g0, g1, g2, g3, g4]
  rw [hB]
  clear hB g0 g1 g2 g3 g4 hl hb
  go_enter Try.func87, Try.ntmps87
  go_wp2_with fail
  refine (c2 _).mono ?_
  rintro e w1 ⟨rfl, hb1⟩
  have I1 := LSt5.next I0 hb1
  clear hb1
  clear y0 y1 y2 y3 a00 a01 a02 a03 a10 a11 a12 a13 a20 a21 a22 a23 a30 a31 a32 a33 a40 a41 a42 a43 bw hb0
  have O1 := I1
  obtain ⟨⟨y0, y1, y2, y3⟩, ⟨⟨a00, a01, a02, a03⟩, ⟨a10, a11, a12, a13⟩, ⟨a20, a21, a22, a23⟩, ⟨a30, a31, a32, a33⟩, ⟨a40, a41, a42, a43⟩⟩, bw, hb0⟩ := O1
  simp only [T.k, T.n, T.s] at y0 y1 y2
  go_wp2_with fail
  refine (c3 _).mono ?_
  rintro e w2 ⟨rfl, hb2⟩
  have I2 := LSt5.next I1 hb2
  clear hb2
  clear y0 y1 y2 y3 a00 a01 a02 a03 a10 a11 a12 a13 a20 a21 a22 a23 a30 a31 a32 a33 a40 a41 a42 a43 bw hb0
  have O2 := I2
  obtain ⟨⟨y0, y1, y2, y3⟩, ⟨⟨a00, a01, a02, a03⟩, ⟨a10, a11, a12, a13⟩, ⟨a20, a21, a22, a23⟩, ⟨a30, a31, a32, a33⟩, ⟨a40, a41, a42, a43⟩⟩, bw, hb0⟩ := O2
  simp only [T.k, T.n, T.s] at y0 y1 y2
  go_wp2_with fail
  refine (c4 _).mono ?_
  rintro e w3 ⟨rfl, hb3⟩
  have I3 := LSt5.next I2 hb3
  clear hb3
  clear y0 y1 y2 y3 a00 a01 a02 a03 a10 a11 a12 a13 a20 a21 a22 a23 a30 a31 a32 a33 a40 a41 a42 a43 bw hb0
  have O3 := I3
  obtain ⟨⟨y0, y1, y2, y3⟩, ⟨⟨a00, a01, a02, a03⟩, ⟨a10, a11, a12, a13⟩, ⟨a20, a21, a22, a23⟩, ⟨a30, a31, a32, a33⟩, ⟨a40, a41, a42, a43⟩⟩, bw, hb0⟩ := O3
  simp only [T.k, T.n, T.s] at y0 y1 y2
  go_wp2_with fail
  go_ret
  exact ⟨rfl, I3.2.2.1⟩

theorem version_any (t : T) (A : Option Addr) (c : Nat) (w : World) (h : LiesS w w.heap.size t.l A c) :
    Calls Try.prog 107 #[.agg #[.int .i64 t.k, .int .u64 t.n, .string t.s, .slice A t.l.length c]] w fun e w' => e = .returned (.bool (verB t)) ∧ Below w.heap.size w w' := by
  by_cases hk : t.k = 5
  · by_cases hn : t.l.length = 3
    · obtain ⟨k, m, s, l⟩ := t
      cases (show k = 5 from hk)
      match l, hn, h with
      | [x0, x1, x2], _, h =>
        obtain ⟨b, off, u0, u1, u2, rfl, hb, hl⟩ := S_3 h
        have hg := version_go m s x0 x1 x2 b off c u0 u1 u2 w hb hl
        rw [show verB (T.mk 5 m s [x0, x1, x2]) = (numB x0 && decide (x1.k = 2) && decide (x2.k = 2)) by simp [verB, T.k, T.l]]
        exact hg
    · rw [show verB t = false by
        unfold verB
        split
        · rename_i e; rw [e] at hn; exact absurd rfl hn
        · rw [Bool.and_false]]
      exact version_no2 t.n t.s t.k A t.l.length c w hk hn (by obtain ⟨_, _, h2, _⟩ := h; omega)
  · rw [show verB t = false by unfold verB; rw [decide_eq_false hk, Bool.false_and]]
    exact version_no1 t _ w hk

theorem isKid_any (t : T) (A : Option Addr) (c : Nat) (w : World) (h : LiesS w w.heap.size t.l A c) :
    Calls Try.prog 87 #[.agg #[.int .i64 t.k, .int .u64 t.n, .string t.s, .slice A t.l.length c]] w fun e w' => e = .returned (.bool (kidB t)) ∧ Below w.heap.size w w' := by
  by_cases hk : t.k = 5
  · by_cases hn : t.l.length = 5
    · obtain ⟨k, m, s, l⟩ := t
      cases (show k = 5 from hk)
      match l, hn, h with
      | [x0, x1, x2, x3, x4], _, h =>
        obtain ⟨b, off, u0, u1, u2, u3, u4, rfl, hb, hl⟩ := S_5 h
        have hg := isKid_go m s x0 x1 x2 x3 x4 b off c u0 u1 u2 u3 u4 w hb hl
        rw [show kidB (T.mk 5 m s [x0, x1, x2, x3, x4]) = (decide (x0.k = 2) && decide (x1.k = 3) && numB x2 && numB x3 && numB x4) by simp [kidB, T.k, T.l]]
        exact hg
    · rw [show kidB t = false by
        unfold kidB
        split
        · rename_i e; rw [e] at hn; exact absurd rfl hn
        · rw [Bool.and_false]]
      exact isKid_no2 t.n t.s t.k A t.l.length c w hk hn (by obtain ⟨_, _, h2, _⟩ := h; omega)
  · rw [show kidB t = false by unfold kidB; rw [decide_eq_false hk, Bool.false_and]]
    exact isKid_no1 t _ w hk

end Go.Proofs.Ytanfjnahdnafnaa.nodes
