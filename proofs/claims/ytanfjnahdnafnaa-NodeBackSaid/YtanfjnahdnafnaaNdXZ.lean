/- What letheref06's isEntry, formed and toKid answer. -/
import Derived.Test.YtanfjnahdnafnaaNdU
import Derived.Test.YtanfjnahdnafnaaNdQb
import Derived.Test.YtanfjnahdnafnaaMixC
import Derived.Test.YtanfjnahdnafnaaNdW
import Derived.Test.YtanfjnahdnafnaaNdE


namespace Go.Proofs.Ytanfjnahdnafnaa.nodes
set_option linter.unusedVariables false
set_option linter.unusedSimpArgs false
open Go.RowKit Go.Proofs.Ytanfjnahdnafnaa.base Go.Proofs.Ytanfjnahdnafnaa.quotas Go.Proofs.Ytanfjnahdnafnaa.vers Go.Proofs.Ytanfjnahdnafnaa.tm Go.Proofs.Ytanfjnahdnafnaa.lies Go.Proofs.Ytanfjnahdnafnaa.copies Go.Proofs.Ytanfjnahdnafnaa.makes

/-- a box that holds a term, whose list begins with x -/
def Xb (w : World) (b off : Nat) (x : T) (ux : Value) (m : Int) (s : ByteArray) (u : Value) (wr : World) : Prop := ((wr.cell? ⟨b, off, none⟩ = some (.int .i64 x.k) ∧ wr.cell? ⟨b, off + 1, none⟩ = some (.int .u64 x.n) ∧ wr.cell? ⟨b, off + 2, none⟩ = some (.string x.s) ∧ wr.cell? ⟨b, off + 3, none⟩ = some ux) ∧
  (wr.cell? ⟨w.heap.size, 0, none⟩ = some (.int .i64 5) ∧ wr.cell? ⟨w.heap.size, 1, none⟩ = some (.int .u64 m) ∧ wr.cell? ⟨w.heap.size, 2, none⟩ = some (.string s) ∧ wr.cell? ⟨w.heap.size, 3, none⟩ = some u)) ∧ Below w.heap.size w wr ∧ b < w.heap.size ∧ w.heap.size < wr.heap.size
theorem Xb.new {w : World} {b off : Nat} {x : T} {ux : Value} (m : Int) (s : ByteArray) (u : Value) (h : P4 w b off x ux) (hb : b < w.heap.size) : Xb w b off x ux m s u (w.alloc (.cells #[.int .i64 5, .int .u64 m, .string s, u] 38)) := by
  have b0 : Below w.heap.size w (w.alloc (.cells #[.int .i64 5, .int .u64 m, .string s, u] 38)) := (Below.refl _ _).alloc (Nat.le_refl _) _
  have k := Blk.new w 38 #[.int .i64 5, .int .u64 m, .string s, u]
  exact ⟨⟨h.next b0 hb, k.cell 0, k.cell 1, k.cell 2, k.cell 3⟩, b0, hb, by simp⟩
theorem Xb.next {w wr w' : World} {b off : Nat} {x : T} {ux : Value} {m : Int} {s : ByteArray} {u : Value} (h : Xb w b off x ux m s u wr) {B : Nat} (hB : w.heap.size < B) (hb : Below B wr w') (hs : wr.heap.size ≤ w'.heap.size) : Xb w b off x ux m s u w' := by
  obtain ⟨⟨⟨a0, a1, a2, a3⟩, y0, y1, y2, y3⟩, h3, h4, h5⟩ := h
  refine ⟨⟨⟨?_, ?_, ?_, ?_⟩, ?_, ?_, ?_, ?_⟩, h3.trans (hb.mono (Nat.le_of_lt hB)), h4, by omega⟩ <;> (rw [hb.cell (by simp; omega)]; assumption)
theorem Xb.next' {w wr w' : World} {b off : Nat} {x : T} {ux : Value} {m : Int} {s : ByteArray} {u : Value} (h : Xb w b off x ux m s u wr) (hb : Below wr.heap.size wr w') : Xb w b off x ux m s u w' := h.next h.2.2.2 hb hb.size

set_option maxRecDepth 100000 in
set_option maxHeartbeats 1000000 in
theorem isEntry_no1 (t : T) (u : Value) (w : World) (hk : ¬ t.k = 5) :
    Calls Try.prog 86 #[.agg #[.int .i64 t.k, .int .u64 t.n, .string t.s, u]] w fun e w' => e = .returned (.bool false) ∧ Below w.heap.size w w' := by
  have d1 : (t.k != 5) = true := by simpa using hk
  clear hk
  go_enter Try.func86, Try.ntmps86
  go_wp2_with fail
  go_ret
  exact ⟨rfl, (Below.refl _ _).alloc (Nat.le_refl _) _⟩

set_option maxRecDepth 100000 in
set_option maxHeartbeats 1000000 in
theorem isEntry_no2 (n : Int) (s : ByteArray) (A : Option Addr) (c : Nat) (w : World)  :
    Calls Try.prog 86 #[.agg #[.int .i64 5, .int .u64 n, .string s, .slice A 0 c]] w fun e w' => e = .returned (.bool false) ∧ Below w.heap.size w w' := by
  go_enter Try.func86, Try.ntmps86
  go_wp2_with fail
  go_ret
  exact ⟨rfl, (Below.refl _ _).alloc (Nat.le_refl _) _⟩

set_option maxRecDepth 100000 in
set_option maxHeartbeats 1000000 in
theorem isEntry_no3 (n : Int) (s : ByteArray) (x : Int) (b off nl c : Nat) (w : World) (hx : w.cell? ⟨b, off, none⟩ = some (.int .i64 x)) (hb : b < w.heap.size) (hn : nl + 1 ≤ 140737488355328) (hne : ¬ x = 2) :
    Calls Try.prog 86 #[.agg #[.int .i64 5, .int .u64 n, .string s, .slice (some ⟨b, off, none⟩) (nl + 1) c]] w fun e w' => e = .returned (.bool false) ∧ Below w.heap.size w w' := by
  have d1 : (x != 2) = true := by simpa using hne
  have d2 : ((nl : Int) + 1 == 0) = false := by simp; omega
  have d3 : (0 : Int) < (nl : Int) + 1 := by omega
  clear hne
  go_enter Try.func86, Try.ntmps86
  go_wp2_with fail
  go_ret
  exact ⟨rfl, (Below.refl _ _).alloc (Nat.le_refl _) _⟩

set_option maxRecDepth 100000 in
set_option maxHeartbeats 1000000 in
theorem refFormed_no1 (t : T) (u : Value) (w : World) (hk : ¬ t.k = 5) :
    Calls Try.prog 43 #[.agg #[.int .i64 t.k, .int .u64 t.n, .string t.s, u]] w fun e w' => e = .returned (.bool false) ∧ Below w.heap.size w w' := by
  have d1 : (t.k != 5) = true := by simpa using hk
  clear hk
  go_enter Try.func43, Try.ntmps43
  go_wp2_with fail
  go_ret
  exact ⟨rfl, (Below.refl _ _).alloc (Nat.le_refl _) _⟩

set_option maxRecDepth 100000 in
set_option maxHeartbeats 1000000 in
theorem refFormed_no2 (n : Int) (s : ByteArray) (A : Option Addr) (c : Nat) (w : World)  :
    Calls Try.prog 43 #[.agg #[.int .i64 5, .int .u64 n, .string s, .slice A 0 c]] w fun e w' => e = .returned (.bool false) ∧ Below w.heap.size w w' := by
  go_enter Try.func43, Try.ntmps43
  go_wp2_with fail
  go_ret
  exact ⟨rfl, (Below.refl _ _).alloc (Nat.le_refl _) _⟩

set_option maxRecDepth 100000 in
set_option maxHeartbeats 1000000 in
theorem refFormed_no3 (n : Int) (s : ByteArray) (x : Int) (b off nl c : Nat) (w : World) (hx : w.cell? ⟨b, off, none⟩ = some (.int .i64 x)) (hb : b < w.heap.size) (hn : nl + 1 ≤ 140737488355328) (hne : ¬ x = 1) :
    Calls Try.prog 43 #[.agg #[.int .i64 5, .int .u64 n, .string s, .slice (some ⟨b, off, none⟩) (nl + 1) c]] w fun e w' => e = .returned (.bool false) ∧ Below w.heap.size w w' := by
  have d1 : (x != 1) = true := by simpa using hne
  have d2 : ((nl : Int) + 1 == 0) = false := by simp; omega
  have d3 : (0 : Int) < (nl : Int) + 1 := by omega
  clear hne
  go_enter Try.func43, Try.ntmps43
  go_wp2_with fail
  go_ret
  exact ⟨rfl, (Below.refl _ _).alloc (Nat.le_refl _) _⟩

set_option maxRecDepth 100000 in
set_option maxHeartbeats 1000000 in
theorem refFormed_no4 (n : Int) (s : ByteArray) (x : Int) (b off nl c : Nat) (w : World) (hx : w.cell? ⟨b, off, none⟩ = some (.int .i64 1)) (hx1 : w.cell? ⟨b, off + 1, none⟩ = some (.int .u64 x)) (hb : b < w.heap.size) (hn : nl + 1 ≤ 140737488355328) (hne : x < 1) :
    Calls Try.prog 43 #[.agg #[.int .i64 5, .int .u64 n, .string s, .slice (some ⟨b, off, none⟩) (nl + 1) c]] w fun e w' => e = .returned (.bool false) ∧ Below w.heap.size w w' := by
  have d1 : decide (x < 1) = true := decide_eq_true hne
  have d2 : ((nl : Int) + 1 == 0) = false := by simp; omega
  have d3 : (0 : Int) < (nl : Int) + 1 := by omega
  clear hne
  go_enter Try.func43, Try.ntmps43
  go_wp2_with fail
  go_ret
  exact ⟨rfl, (Below.refl _ _).alloc (Nat.le_refl _) _⟩

set_option maxRecDepth 100000 in
set_option maxHeartbeats 1000000 in
theorem refFormed_no5 (n : Int) (s : ByteArray) (x : Int) (b off nl c : Nat) (w : World) (hx : w.cell? ⟨b, off, none⟩ = some (.int .i64 1)) (hx1 : w.cell? ⟨b, off + 1, none⟩ = some (.int .u64 x)) (hb : b < w.heap.size) (hn : nl + 1 ≤ 140737488355328) (hne0 : ¬ x < 1) (hne : 2 < x) :
    Calls Try.prog 43 #[.agg #[.int .i64 5, .int .u64 n, .string s, .slice (some ⟨b, off, none⟩) (nl + 1) c]] w fun e w' => e = .returned (.bool false) ∧ Below w.heap.size w w' := by
  have d0 : decide (x < 1) = false := decide_eq_false hne0
  have d1 : decide (2 < x) = true := decide_eq_true hne
  have d2 : ((nl : Int) + 1 == 0) = false := by simp; omega
  have d3 : (0 : Int) < (nl : Int) + 1 := by omega
  clear hne hne0
  go_enter Try.func43, Try.ntmps43
  go_wp2_with fail
  go_ret
  exact ⟨rfl, (Below.refl _ _).alloc (Nat.le_refl _) _⟩

set_option maxRecDepth 100000 in
set_option maxHeartbeats 1000000 in
theorem isEntry_yes (m : Int) (s : ByteArray) (x : T) (r : List T) (b off c : Nat) (w : World) (h : LiesS w w.heap.size (x :: r) (some ⟨b, off, none⟩) c) (hk : x.k = 2)  :
    Calls Try.prog 86 #[.agg #[.int .i64 5, .int .u64 m, .string s, .slice (some ⟨b, off, none⟩) (r.length + 1) c]] w fun e w' => e = .returned (.bool (r.all verB)) ∧ Below w.heap.size w w' := by
  obtain ⟨A', c', hrun, hS⟩ := run_tail h
  obtain ⟨b', off', A1, c1, e, hb, hl0, p0⟩ := S_at h (j := 0) (by simp)
  cases e
  clear hl0
  simp only [Nat.zero_mul, Nat.add_zero, List.getElem_cons_zero] at p0
  generalize Value.slice A1 x.l.length c1 = ux at p0
  have hlen : r.length + 1 ≤ 140737488355328 := by obtain ⟨_, _, h2, _⟩ := h; simp at h2; omega
  have dk : (x.k != 2) = false := by simp [hk]
  have d2 : ((r.length : Int) + 1 == 0) = false := by simp; omega
  have d3 : (0 : Int) < (r.length : Int) + 1 := by omega
  have X0 := Xb.new m s (.slice (some ⟨b, off, none⟩) (r.length + 1) c) p0 hb
  clear h hk p0
  obtain ⟨⟨⟨a0, a1, a2, a3⟩, y0, y1, y2, y3⟩, b0, _, lt0⟩ := id X0
  go_enter Try.func86, Try.ntmps86
  go_wp2_with fail
  go_loopw [26] (fun i wr => ∃ j : Nat, j ≤ r.length ∧ i = .int .i64 j ∧ Hid ((r.take j).all verB = true) ∧ Xb w b off x ux m s (.slice (some ⟨b, off, none⟩) (r.length + 1) c) wr) (fun i _ => r.length - (intOf i).toNat)
  case atStart => exact ⟨0, Nat.zero_le _, rfl, vers.lay rfl, X0⟩
  case round =>
    clear X0 a0 a1 a2 a3 y0 y1 y2 y3 b0 lt0
    obtain ⟨j, hj, rfl, hV, X1⟩ := hrel
    obtain ⟨⟨⟨a0, a1, a2, a3⟩, y0, y1, y2, y3⟩, bw, _, lt0⟩ := id X1
    by_cases hlt : j < r.length
    · obtain ⟨b2, off2, A2, c2, rfl, hb2, hL, p0, p1, p2, p3⟩ := S_at (S_keep hS bw) hlt
      have hl56 : r[j].l.length ≤ 140737488355328 := by obtain ⟨_, _, h2, _⟩ := (S_of hL).1; omega
      have D1 : Below wr.heap.size wr (wr.alloc (.cells #[.int .i64 r[j].k, .int .u64 r[j].n, .string r[j].s, .slice A2 r[j].l.length c2] 38)) := (Below.refl _ _).alloc (Nat.le_refl _) _
      have hS1 : LiesS (wr.alloc (.cells #[.int .i64 r[j].k, .int .u64 r[j].n, .string r[j].s, .slice A2 r[j].l.length c2] 38)) (wr.alloc (.cells #[.int .i64 r[j].k, .int .u64 r[j].n, .string r[j].s, .slice A2 r[j].l.length c2] 38)).heap.size r[j].l A2 c2 := S_more (S_keep (S_more (S_of hL).1 bw.size) D1) D1.size
      have hc := version_any r[j] A2 c2 _ hS1
      have X2 := X1.next' D1
      clear hS1 hL
      have j0 : (0 : Int) ≤ (j : Int) := by omega
      have hbw : b < wr.heap.size := Nat.lt_of_lt_of_le hb bw.size
      cases hbb : verB r[j] with
      | false =>
        have hres : Hid (r.all verB = false) := vers.lay (all_no hlt hbb)
        rw [hbb] at hc
        clear hbb
        generalize r[j].l.length = nl at *
        go_wp2_with fail
        refine hc.mono ?_
        rintro e w3 ⟨rfl, hb3⟩
        have X3 := X2.next' hb3
        clear X1 X2 a0 a1 a2 a3 y0 y1 y2 y3 bw lt0 hb3 hc
        obtain ⟨⟨⟨a0, a1, a2, a3⟩, y0, y1, y2, y3⟩, bw, _, lt0⟩ := id X3
        go_wp2_with fail
        go_ret
        exact ⟨vers.ret_bool hres.out.symm, bw⟩
      | true =>
        have hall : Hid ((r.take (j + 1)).all verB = true) := vers.lay (all_take hlt hV.out hbb)
        rw [hbb] at hc
        clear hbb
        generalize r[j].l.length = nl at *
        go_wp2_with fail
        refine hc.mono ?_
        rintro e w3 ⟨rfl, hb3⟩
        have X3 := X2.next' hb3
        clear X1 X2 a0 a1 a2 a3 y0 y1 y2 y3 bw lt0 hb3 hc
        obtain ⟨⟨⟨a0, a1, a2, a3⟩, y0, y1, y2, y3⟩, bw, _, lt0⟩ := id X3
        go_wp2_with fail
        exact ⟨⟨j + 1, hlt, by go_num, hall, X3⟩, by simp [intOf]; omega⟩
    · have hall : Hid (r.all verB = true) := vers.lay (by have h1 := hV.out; rwa [List.take_of_length_le (by omega)] at h1)
      go_wp2_with fail
      go_ret
      exact ⟨vers.ret_bool hall.out.symm, bw⟩

theorem isEntry_any (t : T) (A : Option Addr) (c : Nat) (w : World) (h : LiesS w w.heap.size t.l A c) :
    Calls Try.prog 86 #[.agg #[.int .i64 t.k, .int .u64 t.n, .string t.s, .slice A t.l.length c]] w fun e w' => e = .returned (.bool (entB t)) ∧ Below w.heap.size w w' := by
  cases hh : headB t 2 with
  | false =>
    rw [entB_head hh]
    by_cases h5 : t.k = 5
    · obtain ⟨k5, m, s, l⟩ := t
      cases (show k5 = 5 from h5)
      cases l with
      | nil => exact isEntry_no2 m s A c w
      | cons x r =>
        obtain ⟨b', off', A1, c1, e, hb, _, p0⟩ := S_at h (j := 0) (by simp [T.l])
        cases e
        have hne : ¬ x.k = 2 := by
          have h2 : headB (T.mk 5 m s (x :: r)) 2 = decide (x.k = 2) := by
            show (decide ((5 : Int) = 5) && decide (x.k = 2)) = _
            simp
          rw [h2] at hh
          exact of_decide_eq_false hh
        have p00 := p0.1
        simp only [Nat.zero_mul, Nat.add_zero] at p00
        exact isEntry_no3 m s x.k b' off' r.length c w p00 hb (by obtain ⟨_, _, h2, _⟩ := h; simp [T.l] at h2; omega) hne
    · exact isEntry_no1 t _ w h5
  | true =>
    obtain ⟨m, s, x, r, rfl, hk⟩ := headB_shape hh
    obtain ⟨b', off', A1, c1, e, hb, _, _⟩ := S_at h (j := 0) (by simp [T.l])
    cases e
    rw [entB_yes m s r hk]
    exact isEntry_yes m s x r b' off' c w h hk

set_option maxRecDepth 100000 in
set_option maxHeartbeats 1000000 in
theorem refFormed_leaf (m : Int) (s : ByteArray) (x : T) (r : List T) (b off c : Nat) (w : World) (h : LiesS w w.heap.size (x :: r) (some ⟨b, off, none⟩) c) (hk : x.k = 1) (hn : x.n = 1) :
    Calls Try.prog 43 #[.agg #[.int .i64 5, .int .u64 m, .string s, .slice (some ⟨b, off, none⟩) (r.length + 1) c]] w fun e w' => e = .returned (.bool (r.all entB)) ∧ Below w.heap.size w w' := by
  obtain ⟨A', c', hrun, hS⟩ := run_tail h
  obtain ⟨b', off', A1, c1, e, hb, hl0, p0⟩ := S_at h (j := 0) (by simp)
  cases e
  clear hl0
  simp only [Nat.zero_mul, Nat.add_zero, List.getElem_cons_zero] at p0
  generalize Value.slice A1 x.l.length c1 = ux at p0
  have hlen : r.length + 1 ≤ 140737488355328 := by obtain ⟨_, _, h2, _⟩ := h; simp at h2; omega
  have dk : (x.k != 1) = false := by simp [hk]
  have e1 : (x.n == 1) = true := by simp [hn]
  have e2 : decide (x.n < 1) = false := decide_eq_false (by omega)
  have e3 : decide (2 < x.n) = false := decide_eq_false (by omega)
  have e4 : (x.n == 2) = false := by simp [hn]
  clear hn
  have d2 : ((r.length : Int) + 1 == 0) = false := by simp; omega
  have d3 : (0 : Int) < (r.length : Int) + 1 := by omega
  have X0 := Xb.new m s (.slice (some ⟨b, off, none⟩) (r.length + 1) c) p0 hb
  clear h hk p0
  obtain ⟨⟨⟨a0, a1, a2, a3⟩, y0, y1, y2, y3⟩, b0, _, lt0⟩ := id X0
  go_enter Try.func43, Try.ntmps43
  go_wp2_with fail
  go_loopw [42] (fun i wr => ∃ j : Nat, j ≤ r.length ∧ i = .int .i64 j ∧ Hid ((r.take j).all entB = true) ∧ Xb w b off x ux m s (.slice (some ⟨b, off, none⟩) (r.length + 1) c) wr) (fun i _ => r.length - (intOf i).toNat)
  case atStart => exact ⟨0, Nat.zero_le _, rfl, vers.lay rfl, X0⟩
  case round =>
    clear X0 a0 a1 a2 a3 y0 y1 y2 y3 b0 lt0
    obtain ⟨j, hj, rfl, hV, X1⟩ := hrel
    obtain ⟨⟨⟨a0, a1, a2, a3⟩, y0, y1, y2, y3⟩, bw, _, lt0⟩ := id X1
    by_cases hlt : j < r.length
    · obtain ⟨b2, off2, A2, c2, rfl, hb2, hL, p0, p1, p2, p3⟩ := S_at (S_keep hS bw) hlt
      have hl56 : r[j].l.length ≤ 140737488355328 := by obtain ⟨_, _, h2, _⟩ := (S_of hL).1; omega
      have D1 : Below wr.heap.size wr (wr.alloc (.cells #[.int .i64 r[j].k, .int .u64 r[j].n, .string r[j].s, .slice A2 r[j].l.length c2] 38)) := (Below.refl _ _).alloc (Nat.le_refl _) _
      have hS1 : LiesS (wr.alloc (.cells #[.int .i64 r[j].k, .int .u64 r[j].n, .string r[j].s, .slice A2 r[j].l.length c2] 38)) (wr.alloc (.cells #[.int .i64 r[j].k, .int .u64 r[j].n, .string r[j].s, .slice A2 r[j].l.length c2] 38)).heap.size r[j].l A2 c2 := S_more (S_keep (S_more (S_of hL).1 bw.size) D1) D1.size
      have hc := isEntry_any r[j] A2 c2 _ hS1
      have X2 := X1.next' D1
      clear hS1 hL
      have j0 : (0 : Int) ≤ (j : Int) := by omega
      have hbw : b < wr.heap.size := Nat.lt_of_lt_of_le hb bw.size
      cases hbb : entB r[j] with
      | false =>
        have hres : Hid (r.all entB = false) := vers.lay (all_no hlt hbb)
        rw [hbb] at hc
        clear hbb
        generalize r[j].l.length = nl at *
        go_wp2_with fail
        refine hc.mono ?_
        rintro e w3 ⟨rfl, hb3⟩
        have X3 := X2.next' hb3
        clear X1 X2 a0 a1 a2 a3 y0 y1 y2 y3 bw lt0 hb3 hc
        obtain ⟨⟨⟨a0, a1, a2, a3⟩, y0, y1, y2, y3⟩, bw, _, lt0⟩ := id X3
        go_wp2_with fail
        go_ret
        exact ⟨vers.ret_bool hres.out.symm, bw⟩
      | true =>
        have hall : Hid ((r.take (j + 1)).all entB = true) := vers.lay (all_take hlt hV.out hbb)
        rw [hbb] at hc
        clear hbb
        generalize r[j].l.length = nl at *
        go_wp2_with fail
        refine hc.mono ?_
        rintro e w3 ⟨rfl, hb3⟩
        have X3 := X2.next' hb3
        clear X1 X2 a0 a1 a2 a3 y0 y1 y2 y3 bw lt0 hb3 hc
        obtain ⟨⟨⟨a0, a1, a2, a3⟩, y0, y1, y2, y3⟩, bw, _, lt0⟩ := id X3
        go_wp2_with fail
        exact ⟨⟨j + 1, hlt, by go_num, hall, X3⟩, by simp [intOf]; omega⟩
    · have hall : Hid (r.all entB = true) := vers.lay (by have h1 := hV.out; rwa [List.take_of_length_le (by omega)] at h1)
      go_wp2_with fail
      go_ret
      exact ⟨vers.ret_bool hall.out.symm, bw⟩

set_option maxRecDepth 100000 in
set_option maxHeartbeats 1000000 in
theorem refFormed_inner (m : Int) (s : ByteArray) (x : T) (r : List T) (b off c : Nat) (w : World) (h : LiesS w w.heap.size (x :: r) (some ⟨b, off, none⟩) c) (hk : x.k = 1) (hn : x.n = 2) :
    Calls Try.prog 43 #[.agg #[.int .i64 5, .int .u64 m, .string s, .slice (some ⟨b, off, none⟩) (r.length + 1) c]] w fun e w' => e = .returned (.bool (r.all kidB)) ∧ Below w.heap.size w w' := by
  obtain ⟨A', c', hrun, hS⟩ := run_tail h
  obtain ⟨b', off', A1, c1, e, hb, hl0, p0⟩ := S_at h (j := 0) (by simp)
  cases e
  clear hl0
  simp only [Nat.zero_mul, Nat.add_zero, List.getElem_cons_zero] at p0
  generalize Value.slice A1 x.l.length c1 = ux at p0
  have hlen : r.length + 1 ≤ 140737488355328 := by obtain ⟨_, _, h2, _⟩ := h; simp at h2; omega
  have dk : (x.k != 1) = false := by simp [hk]
  have e1 : (x.n == 1) = false := by simp [hn]
  have e2 : decide (x.n < 1) = false := decide_eq_false (by omega)
  have e3 : decide (2 < x.n) = false := decide_eq_false (by omega)
  have e4 : (x.n == 2) = true := by simp [hn]
  clear hn
  have d2 : ((r.length : Int) + 1 == 0) = false := by simp; omega
  have d3 : (0 : Int) < (r.length : Int) + 1 := by omega
  have X0 := Xb.new m s (.slice (some ⟨b, off, none⟩) (r.length + 1) c) p0 hb
  clear h hk p0
  obtain ⟨⟨⟨a0, a1, a2, a3⟩, y0, y1, y2, y3⟩, b0, _, lt0⟩ := id X0
  go_enter Try.func43, Try.ntmps43
  go_wp2_with fail
  go_loopw [42] (fun i wr => ∃ j : Nat, j ≤ r.length ∧ i = .int .i64 j ∧ Hid ((r.take j).all kidB = true) ∧ Xb w b off x ux m s (.slice (some ⟨b, off, none⟩) (r.length + 1) c) wr) (fun i _ => r.length - (intOf i).toNat)
  case atStart => exact ⟨0, Nat.zero_le _, rfl, vers.lay rfl, X0⟩
  case round =>
    clear X0 a0 a1 a2 a3 y0 y1 y2 y3 b0 lt0
    obtain ⟨j, hj, rfl, hV, X1⟩ := hrel
    obtain ⟨⟨⟨a0, a1, a2, a3⟩, y0, y1, y2, y3⟩, bw, _, lt0⟩ := id X1
    by_cases hlt : j < r.length
    · obtain ⟨b2, off2, A2, c2, rfl, hb2, hL, p0, p1, p2, p3⟩ := S_at (S_keep hS bw) hlt
      have hl56 : r[j].l.length ≤ 140737488355328 := by obtain ⟨_, _, h2, _⟩ := (S_of hL).1; omega
      have D1 : Below wr.heap.size wr (wr.alloc (.cells #[.int .i64 r[j].k, .int .u64 r[j].n, .string r[j].s, .slice A2 r[j].l.length c2] 38)) := (Below.refl _ _).alloc (Nat.le_refl _) _
      have hS1 : LiesS (wr.alloc (.cells #[.int .i64 r[j].k, .int .u64 r[j].n, .string r[j].s, .slice A2 r[j].l.length c2] 38)) (wr.alloc (.cells #[.int .i64 r[j].k, .int .u64 r[j].n, .string r[j].s, .slice A2 r[j].l.length c2] 38)).heap.size r[j].l A2 c2 := S_more (S_keep (S_more (S_of hL).1 bw.size) D1) D1.size
      have hc := isKid_any r[j] A2 c2 _ hS1
      have X2 := X1.next' D1
      clear hS1 hL
      have j0 : (0 : Int) ≤ (j : Int) := by omega
      have hbw : b < wr.heap.size := Nat.lt_of_lt_of_le hb bw.size
      cases hbb : kidB r[j] with
      | false =>
        have hres : Hid (r.all kidB = false) := vers.lay (all_no hlt hbb)
        rw [hbb] at hc
        clear hbb
        generalize r[j].l.length = nl at *
        go_wp2_with fail
        refine hc.mono ?_
        rintro e w3 ⟨rfl, hb3⟩
        have X3 := X2.next' hb3
        clear X1 X2 a0 a1 a2 a3 y0 y1 y2 y3 bw lt0 hb3 hc
        obtain ⟨⟨⟨a0, a1, a2, a3⟩, y0, y1, y2, y3⟩, bw, _, lt0⟩ := id X3
        go_wp2_with fail
        go_ret
        exact ⟨vers.ret_bool hres.out.symm, bw⟩
      | true =>
        have hall : Hid ((r.take (j + 1)).all kidB = true) := vers.lay (all_take hlt hV.out hbb)
        rw [hbb] at hc
        clear hbb
        generalize r[j].l.length = nl at *
        go_wp2_with fail
        refine hc.mono ?_
        rintro e w3 ⟨rfl, hb3⟩
        have X3 := X2.next' hb3
        clear X1 X2 a0 a1 a2 a3 y0 y1 y2 y3 bw lt0 hb3 hc
        obtain ⟨⟨⟨a0, a1, a2, a3⟩, y0, y1, y2, y3⟩, bw, _, lt0⟩ := id X3
        go_wp2_with fail
        exact ⟨⟨j + 1, hlt, by go_num, hall, X3⟩, by simp [intOf]; omega⟩
    · have hall : Hid (r.all kidB = true) := vers.lay (by have h1 := hV.out; rwa [List.take_of_length_le (by omega)] at h1)
      go_wp2_with fail
      go_ret
      exact ⟨vers.ret_bool hall.out.symm, bw⟩

theorem refFormed_any (t : T) (A : Option Addr) (c : Nat) (w : World) (h : LiesS w w.heap.size t.l A c) :
    Calls Try.prog 43 #[.agg #[.int .i64 t.k, .int .u64 t.n, .string t.s, .slice A t.l.length c]] w fun e w' => e = .returned (.bool (nodB t)) ∧ Below w.heap.size w w' := by
  cases hh : headB t 1 with
  | false =>
    rw [nodB_head hh]
    by_cases h5 : t.k = 5
    · obtain ⟨k5, m, s, l⟩ := t
      cases (show k5 = 5 from h5)
      cases l with
      | nil => exact refFormed_no2 m s A c w
      | cons x r =>
        obtain ⟨b', off', A1, c1, e, hb, _, p0⟩ := S_at h (j := 0) (by simp [T.l])
        cases e
        have hne : ¬ x.k = 1 := by
          have h2 : headB (T.mk 5 m s (x :: r)) 1 = decide (x.k = 1) := by
            show (decide ((5 : Int) = 5) && decide (x.k = 1)) = _
            simp
          rw [h2] at hh
          exact of_decide_eq_false hh
        have p00 := p0.1
        simp only [Nat.zero_mul, Nat.add_zero] at p00
        exact refFormed_no3 m s x.k b' off' r.length c w p00 hb (by obtain ⟨_, _, h2, _⟩ := h; simp [T.l] at h2; omega) hne
    · exact refFormed_no1 t _ w h5
  | true =>
    obtain ⟨m, s, x, r, rfl, hk⟩ := headB_shape hh
    obtain ⟨b', off', A1, c1, e, hb, _, p0⟩ := S_at h (j := 0) (by simp [T.l])
    cases e
    have p00 := p0.1
    have p01 := p0.2.1
    simp only [Nat.zero_mul, Nat.add_zero] at p00 p01
    have hlen : r.length + 1 ≤ 140737488355328 := by obtain ⟨_, _, h2, _⟩ := h; simp [T.l] at h2; omega
    rw [nodB_yes m s r hk]
    by_cases h1 : x.n = 1
    · rw [if_pos h1]
      exact refFormed_leaf m s x r b' off' c w h hk h1
    · rw [if_neg h1]
      by_cases h2 : x.n = 2
      · rw [if_pos h2]
        exact refFormed_inner m s x r b' off' c w h hk h2
      · rw [if_neg h2]
        have p002 : w.cell? ⟨b', off', none⟩ = some (.int .i64 1) := by rw [← hk]; exact p00
        by_cases h3 : x.n < 1
        · exact refFormed_no4 m s x.n b' off' r.length c w p002 p01 hb hlen h3
        · exact refFormed_no5 m s x.n b' off' r.length c w p002 p01 hb hlen h3 (by omega)

end Go.Proofs.Ytanfjnahdnafnaa.nodes

/- What letheref06's toKid and toEntry answer. -/

namespace Go.Proofs.Ytanfjnahdnafnaa.nodes
set_option linter.unusedVariables false
set_option linter.unusedSimpArgs false
open Go.RowKit Go.Proofs.Ytanfjnahdnafnaa.base Go.Proofs.Ytanfjnahdnafnaa.quotas Go.Proofs.Ytanfjnahdnafnaa.vers Go.Proofs.Ytanfjnahdnafnaa.tm Go.Proofs.Ytanfjnahdnafnaa.lies Go.Proofs.Ytanfjnahdnafnaa.copies Go.Proofs.Ytanfjnahdnafnaa.makes

/-- behind the reference's making -/
def Kb6 (w : World) (b o g : Nat) (s : ByteArray) (n1 n2 n3 n4 : Int) (u : Value) (wr : World) : Prop := Kb5 w b o g s n1 n2 n3 n4 wr ∧ wr.cell? ⟨w.heap.size, 3, none⟩ = some u
theorem Kb6.next {w wr w' : World} {b o g : Nat} {s : ByteArray} {n1 n2 n3 n4 : Int} {u : Value} (h : Kb6 w b o g s n1 n2 n3 n4 u wr) (hb : Below wr.heap.size wr w') : Kb6 w b o g s n1 n2 n3 n4 u w' := by
  obtain ⟨h1, h2⟩ := h
  have := h1.2.2.2.1.lt
  exact ⟨h1.next hb, by rw [hb.cell (by simp; omega)]; exact h2⟩

set_option maxRecDepth 100000 in
set_option maxHeartbeats 1000000 in
theorem toKid_yes (m : Int) (s : ByteArray) (x0 x1 x2 x3 x4 : T) (b off c : Nat) (u0 u1 u2 u3 u4 : Value) (w : World) (hb : b < w.heap.size) (hl : L5 w b off x0 x1 x2 x3 x4 u0 u1 u2 u3 u4) (h2 : 0 ≤ x2.n ∧ x2.n ≤ 2147483647) (h3 : 0 ≤ x3.n ∧ x3.n ≤ 2147483647) (h4 : 0 ≤ x4.n ∧ x4.n ≤ 2147483647) :
    Calls Try.prog 45 #[.agg #[.int .i64 5, .int .u64 m, .string s, .slice (some ⟨b, off, none⟩) 5 c]] w fun e w' => e = .returned (.agg #[.string x0.s, .int .u64 x1.n, .int .i64 x2.n, .int .i64 x3.n, .int .i64 x4.n]) ∧ Below w.heap.size w w' := by
  have k1 := Blk.new (w.alloc (.cells #[.int .i64 5, .int .u64 m, .string s, .slice (some ⟨b, off, none⟩) 5 c] 38)) 57 #[.string ⟨#[]⟩, .int .u64 0, .int .i64 0, .int .i64 0, .int .i64 0]
  have t1 := (Blk.new w 38 #[.int .i64 5, .int .u64 m, .string s, .slice (some ⟨b, off, none⟩) 5 c]).alloc (.cells #[.string ⟨#[]⟩, .int .u64 0, .int .i64 0, .int .i64 0, .int .i64 0] 57)
  have b1 : Below w.heap.size w ((w.alloc (.cells #[.int .i64 5, .int .u64 m, .string s, .slice (some ⟨b, off, none⟩) 5 c] 38)).alloc (.cells #[.string ⟨#[]⟩, .int .u64 0, .int .i64 0, .int .i64 0, .int .i64 0] 57)) := ((Below.refl _ _).alloc (Nat.le_refl _) _).alloc (by simp) _
  simp only [World.size_alloc] at k1
  have hl1 := hl.next b1 hb
  have y3 : ((w.alloc (.cells #[.int .i64 5, .int .u64 m, .string s, .slice (some ⟨b, off, none⟩) 5 c] 38)).alloc (.cells #[.string ⟨#[]⟩, .int .u64 0, .int .i64 0, .int .i64 0, .int .i64 0] 57)).cell? ⟨w.heap.size, 3, none⟩ = some (.slice (some ⟨b, off, none⟩) 5 c) := t1.cell 3
  have e2 : IntKind.i64.wrap x2.n = x2.n := IntWalk.i64_in _ (by omega)
  have e3 : IntKind.i64.wrap x3.n = x3.n := IntWalk.i64_in _ (by omega)
  have e4 : IntKind.i64.wrap x4.n = x4.n := IntWalk.i64_in _ (by omega)
  obtain ⟨⟨a00, a01, a02, a03⟩, ⟨a10, a11, a12, a13⟩, ⟨a20, a21, a22, a23⟩, ⟨a30, a31, a32, a33⟩, ⟨a40, a41, a42, a43⟩⟩ := hl1
  have lb : b < ((w.alloc (.cells #[.int .i64 5, .int .u64 m, .string s, .slice (some ⟨b, off, none⟩) 5 c] 38)).alloc (.cells #[.string ⟨#[]⟩, .int .u64 0, .int .i64 0, .int .i64 0, .int .i64 0] 57)).heap.size := Nat.lt_of_lt_of_le hb b1.size
  have lt1 := k1.lt
  clear hl h2 h3 h4 t1
  go_enter Try.func45, Try.ntmps45
  generalize hW : (w.alloc (.cells #[.int .i64 5, .int .u64 m, .string s, .slice (some ⟨b, off, none⟩) 5 c] 38)).alloc (.cells #[.string ⟨#[]⟩, .int .u64 0, .int .i64 0, .int .i64 0, .int .i64 0] 57) = W at *
  go_wp2_with fail
  go_region_held3 (fun w' => w'.cell? ⟨w.heap.size, 3, none⟩ = some (.slice (some ⟨b, off, none⟩) 5 c) ∧ w'.cell? ⟨b, off + 4 + 1, none⟩ = some (.int .u64 x1.n) ∧ w'.cell? ⟨b, off + 8 + 1, none⟩ = some (.int .u64 x2.n) ∧ w'.cell? ⟨b, off + 12 + 1, none⟩ = some (.int .u64 x3.n) ∧ w'.cell? ⟨b, off + 16 + 1, none⟩ = some (.int .u64 x4.n)) (go_keep) (fail)
  have R5 : Kb6 w b (off + 2) W.heap.size x0.s x1.n x2.n x3.n x4.n (.slice (some ⟨b, off, none⟩) 5 c) ((W.alloc (.cells #[.int .u64 x1.n, .int .i64 x2.n, .int .i64 x3.n, .int .i64 x4.n] 30)).drew) := by
    have kr := Blk.new W 30 #[.int .u64 x1.n, .int .i64 x2.n, .int .i64 x3.n, .int .i64 x4.n]
    have D : Below W.heap.size W (W.alloc (.cells #[.int .u64 x1.n, .int .i64 x2.n, .int .i64 x3.n, .int .i64 x4.n] 30)).drew := ((Below.refl _ _).alloc (Nat.le_refl _) _).drew
    exact ⟨⟨⟨(D.cell (by simpa using lb)).trans a02, kr.cell 0, kr.cell 1, kr.cell 2, kr.cell 3⟩, by simp, Nat.lt_of_lt_of_le lb D.size, k1.below D k1.lt, b1.trans (D.mono b1.size)⟩, (D.cell (by simp; omega)).trans y3⟩
  clear a00 a01 a02 a03 a10 a11 a12 a13 a20 a21 a22 a23 a30 a31 a32 a33 a40 a41 a42 a43 k1 b1 lb y3 lt1
  go_wp2_with fail
  clear hW
  generalize W.heap.size = g at R5 ⊢
  obtain ⟨N, hN, hM⟩ := norms _ _ R5
  have hne : Nonempty World := ⟨w⟩
  have q0 := fun n => (hN n).1.1.1
  have q1 := fun n => (hN n).1.1.2.1
  have q2 := fun n => (hN n).1.1.2.2.1
  have q3 := fun n => (hN n).1.1.2.2.2.1
  have q4 := fun n => (hN n).1.1.2.2.2.2
  have q5 := fun n => (hN n).1.2.1
  have q6 := fun n => (hN n).1.2.2.1
  have q7 := fun n => (hN n).2
  refine mix.region_tail 6 N (by kernel_rfl) (by kernel_rfl) (hM _ (R5.next ((Below.refl _ _).drew))) ?_
  simp only [List.take_succ_cons, List.take_zero, List.drop_succ_cons, List.drop_zero]
  clear R5
  repeat (go_big_quiet_step (fail))
  refine wpQuiet_nil ?_
  rintro _ ⟨n, rfl⟩
  have V9 := hN n
  generalize N n = w9 at V9 ⊢
  clear hM hN N n hne q0 q1 q2 q3 q4 q5 q6 q7
  obtain ⟨⟨_, _, _, k9, b9⟩, _⟩ := V9
  have lt1 := k9.lt
  have z0 := k9.cell 0
  have z1 := k9.cell 1
  have z2 := k9.cell 2
  have z3 := k9.cell 3
  have z4 := k9.cell 4
  simp at z0 z1 z2 z3 z4
  have f0 := k9.frozen 0
  have f1 := k9.frozen 1
  have f2 := k9.frozen 2
  have f3 := k9.frozen 3
  have f4 := k9.frozen 4
  go_wp2_with fail
  refine bodyPost_ret (v := .agg #[.string x0.s, .int .u64 x1.n, .int .i64 x2.n, .int .i64 x3.n, .int .i64 x4.n]) (by simp [results, Try.results45, go_sem, z0, z1, z2, z3, z4, e2, e3, e4]) rfl ⟨rfl, ?_⟩
  repeat (first | exact b9 | refine Below.setCell ?_ (Nat.le_succ _) _)

theorem toKid_any (t : T) (A : Option Addr) (c : Nat) (w : World) (h : LiesS w w.heap.size t.l A c) (hv : kidB t = true) :
    Calls Try.prog 45 #[.agg #[.int .i64 t.k, .int .u64 t.n, .string t.s, .slice A t.l.length c]] w fun e w' => e = .returned (.agg #[.string (toK t).s, .int .u64 ((toK t).k : Int), .int .i64 (toK t).g, .int .i64 (toK t).o, .int .i64 (toK t).n]) ∧ Below w.heap.size w w' := by
  obtain ⟨m, s, x0, x1, x2, x3, x4, rfl, n2, n3, n4⟩ := kidB_shape hv
  obtain ⟨b, off, u0, u1, u2, u3, u4, rfl, hb, hl⟩ := S_5 (show LiesS w w.heap.size [x0, x1, x2, x3, x4] A c from h)
  have f1 := S_fits h (x := x1) (by simp [T.l])
  have f2 := S_fits h (x := x2) (by simp [T.l])
  have f3 := S_fits h (x := x3) (by simp [T.l])
  have f4 := S_fits h (x := x4) (by simp [T.l])
  have hk : ((toK (T.mk 5 m s [x0, x1, x2, x3, x4])).k : Int) = x1.n := Int.toNat_of_nonneg f1.1.1
  rw [hk]
  exact toKid_yes m s x0 x1 x2 x3 x4 b off c u0 u1 u2 u3 u4 w hb hl ⟨f2.1.1, numB_le n2⟩ ⟨f3.1.1, numB_le n3⟩ ⟨f4.1.1, numB_le n4⟩
/-- what toEntry answers -/
def TEAns (w : World) (y : ByteArray × List V) (e : Ending) (w' : World) : Prop := ∃ A c, e = .returned (.agg #[.string y.1, .slice A y.2.length c]) ∧ HVs w' w.heap.size w'.heap.size y.2 A c ∧ Below w.heap.size w w'
/-- behind an element's box: what is read -/
def Ts (W1 : World) (g : Nat) (u : Value) (q b3 off3 c2 : Nat) (n0 : Int) (s1 s2 : ByteArray) (wr : World) : Prop := (wr.cell? ⟨g, 1, none⟩ = some u ∧ wr.cell? ⟨q, 3, none⟩ = some (.slice (some ⟨b3, off3, none⟩) 3 c2) ∧ wr.cell? ⟨b3, off3 + 1, none⟩ = some (.int .u64 n0) ∧ wr.cell? ⟨b3, off3 + 4 + 2, none⟩ = some (.string s1) ∧ wr.cell? ⟨b3, off3 + 8 + 2, none⟩ = some (.string s2)) ∧ (g < wr.heap.size ∧ q < wr.heap.size ∧ b3 < wr.heap.size) ∧ Below W1.heap.size W1 wr
theorem Ts.next {W1 wr w' : World} {g : Nat} {u : Value} {q b3 off3 c2 : Nat} {n0 : Int} {s1 s2 : ByteArray} (h : Ts W1 g u q b3 off3 c2 n0 s1 s2 wr) (hb : Below wr.heap.size wr w') : Ts W1 g u q b3 off3 c2 n0 s1 s2 w' := by
  obtain ⟨⟨h0, h1, h2, h3, h4⟩, ⟨g1, g2, g3⟩, hw⟩ := h
  have hs := hb.size
  refine ⟨⟨?_, ?_, ?_, ?_, ?_⟩, ⟨by omega, by omega, by omega⟩, hw.trans (hb.mono hw.size)⟩ <;> (rw [hb.cell (by simpa using (by assumption))]; assumption)
/-- a round's head of toEntry -/
def EHd (w : World) (s : ByteArray) (r : List T) (i : Value) (wr : World) : Prop := ∃ (j : Nat) (u : Value), j ≤ r.length ∧ i = .int .i64 j ∧ Blk wr (w.heap.size + 2) 61 #[.string s, u] ∧ OwnV (w.heap.size + 3) wr ((r.take j).map toV) u ∧ Blk wr (w.heap.size + 1) 61 #[.string ⟨#[]⟩, .slice none 0 0] ∧ Below w.heap.size w wr ∧ w.heap.size + 3 ≤ wr.heap.size

set_option maxRecDepth 100000 in
set_option maxHeartbeats 1000000 in
theorem toEntry_yes (m : Int) (s : ByteArray) (x : T) (r : List T) (b off c : Nat) (w : World) (h : LiesS w w.heap.size (x :: r) (some ⟨b, off, none⟩) c) (hall : ∀ y ∈ r, verB y = true) :
    Calls Try.prog 44 #[.agg #[.int .i64 5, .int .u64 m, .string s, .slice (some ⟨b, off, none⟩) (r.length + 1) c]] w (TEAns w (x.s, r.map toV)) := by
  obtain ⟨A', c', hrun, hS⟩ := run_tail h
  obtain ⟨b', off', A1, c1, e, hb, hl0, p0⟩ := S_at h (j := 0) (by simp)
  cases e
  clear hl0
  simp only [Nat.zero_mul, Nat.add_zero, List.getElem_cons_zero] at p0
  obtain ⟨_, _, p02, _⟩ := p0
  have hlen : r.length + 1 ≤ 140737488355328 := by obtain ⟨_, _, h2, _⟩ := h; simp at h2; omega
  have hlen56 : Hid ((r.length + 1) * 56 ≤ 140737488355328) := vers.lay (by obtain ⟨_, _, h2, _⟩ := h; simpa using h2)
  have d3 : (0 : Int) < (r.length : Int) + 1 := by omega
  have kR := (Blk.new (w.alloc (.cells #[.int .i64 5, .int .u64 m, .string s, .slice (some ⟨b, off, none⟩) (r.length + 1) c] 38)) 61 #[.string ⟨#[]⟩, .slice none 0 0]).alloc (.cells #[.string x.s, .slice none 0 0] 61)
  have kE := Blk.new ((w.alloc (.cells #[.int .i64 5, .int .u64 m, .string s, .slice (some ⟨b, off, none⟩) (r.length + 1) c] 38)).alloc (.cells #[.string ⟨#[]⟩, .slice none 0 0] 61)) 61 #[.string x.s, .slice none 0 0]
  have b0 : Below w.heap.size w (((w.alloc (.cells #[.int .i64 5, .int .u64 m, .string s, .slice (some ⟨b, off, none⟩) (r.length + 1) c] 38)).alloc (.cells #[.string ⟨#[]⟩, .slice none 0 0] 61)).alloc (.cells #[.string x.s, .slice none 0 0] 61)) := (((Below.refl _ _).alloc (Nat.le_refl _) _).alloc (by simp) _).alloc (by simp; omega) _
  simp only [World.size_alloc] at kR kE
  have E0 : EHd w x.s r (.int .i64 0) _ := ⟨0, _, Nat.zero_le _, rfl, kE, OwnV.nil _ _, kR, b0, by simp⟩
  clear h kR kE b0
  go_enter Try.func44, Try.ntmps44
  go_wp2_with fail
  go_loopw [16] (fun i wr => EHd w x.s r i wr) (fun i _ => r.length - (intOf i).toNat)
  case atStart => exact E0
  case round =>
    clear E0
    obtain ⟨j, u, hj, rfl, kE, hO, kR, bw, hsz⟩ := hrel
    obtain ⟨AX, nX, cX, rfl, hnX⟩ := hO.shape
    by_cases hlt : j < r.length
    · obtain ⟨b2, off2, A2, c2, rfl, hb2, hL, p0, p1, p2, p3⟩ := S_at (S_keep hS bw) hlt
      have hvj := hall _ (List.getElem_mem hlt)
      have hfit := toV_fits (S_of hL).1 hvj
      have htk := vers.lay (map_take toV r hlt)
      have hj0 : (0 : Int) ≤ (j : Int) := by omega
      obtain ⟨m1, s9, x0, x1, x2, htj, hn0⟩ := verB_shape hvj
      rw [htj] at hL p0 p1 p2 p3 hfit htk
      simp only [T.k, T.n, T.s, T.l] at p0 p1 p2 p3
      obtain ⟨b3, off3, u0, u1, u2, rfl, hb3, ⟨⟨_, a01, _, _⟩, ⟨_, _, a12, _⟩, ⟨_, _, a22, _⟩⟩⟩ := S_3 (show LiesS wr w.heap.size [x0, x1, x2] A2 c2 from (S_of hL).1)
      have f0 := S_fits (show LiesS wr w.heap.size [x0, x1, x2] (some ⟨b3, off3, none⟩) c2 from (S_of hL).1) (x := x0) (by simp)
      have e0 : IntKind.i64.wrap x0.n = x0.n := IntWalk.i64_in _ (by have := numB_le hn0; omega)
      change V.fits ⟨x0.n, x1.s, x2.s⟩ at hfit
      have D1 : Below wr.heap.size wr (wr.alloc (.cells #[.int .i64 5, .int .u64 m1, .string s9, .slice (some ⟨b3, off3, none⟩) 3 c2] 38)).drew := ((Below.refl _ _).alloc (Nat.le_refl _) _).drew
      have hl40 : Hid ((((r.take j).map toV).length + 1) * 40 ≤ 140737488355328) := vers.lay (by have := hlen56.out; rw [List.length_map, List.length_take]; omega)
      have hwq : r[j].l.length = 3 := by rw [htj]; rfl
      have hwk : r[j].k = 5 := by rw [htj]; rfl
      have hwn : r[j].n = m1 := by rw [htj]; rfl
      have hws : r[j].s = s9 := by rw [htj]; rfl
      have hown0 : ∀ k, (Value.slice AX nX cX).ownBlock = some k → w.heap.size + 3 ≤ k ∧ k < wr.heap.size := hO.own
      have hneE : some (w.heap.size + 2) ≠ (Value.slice AX nX cX).ownBlock := fun e => by have := hown0 _ e.symm; omega
      have hneX : some wr.heap.size ≠ (Value.slice AX nX cX).ownBlock := fun e => by have := hown0 _ e.symm; omega
      have hneB : some b3 ≠ (Value.slice AX nX cX).ownBlock := fun e => by have := hown0 _ e.symm; omega
      have hO9 := hO.below D1
      have b9 := bw.trans (D1.mono bw.size)
      have kE9 := kE.below D1 kE.lt
      have kR9 := kR.below D1 kR.lt
      have hlo9 : w.heap.size + 3 ≤ (wr.alloc (.cells #[.int .i64 5, .int .u64 m1, .string s9, .slice (some ⟨b3, off3, none⟩) 3 c2] 38)).drew.heap.size := Nat.le_trans hsz D1.size
      have hle := hl40.out
      have kX := kE.cell 1
      simp at kX
      have hwb2 : w.heap.size + 2 < wr.heap.size := by omega
      have hwb3 : b3 < wr.heap.size := by omega
      have l0 : b3 < (wr.alloc (.cells #[.int .i64 5, .int .u64 m1, .string s9, .slice (some ⟨b3, off3, none⟩) 3 c2] 38)).heap.size := by simp; omega
      have l1 : w.heap.size + 2 < (wr.alloc (.cells #[.int .i64 5, .int .u64 m1, .string s9, .slice (some ⟨b3, off3, none⟩) 3 c2] 38)).heap.size := by simp; omega
      have hf0 := kE9.frozen 1
      have g0 : (wr.alloc (.cells #[.int .i64 5, .int .u64 m1, .string s9, .slice (some ⟨b3, off3, none⟩) 3 c2] 38)).drew.cell? ⟨w.heap.size + 2, 1, none⟩ = some (.slice AX nX cX) := kE9.cell 1
      have g1 : (wr.alloc (.cells #[.int .i64 5, .int .u64 m1, .string s9, .slice (some ⟨b3, off3, none⟩) 3 c2] 38)).drew.cell? ⟨wr.heap.size, 3, none⟩ = some (.slice (some ⟨b3, off3, none⟩) 3 c2) := (Blk.new wr 38 #[.int .i64 5, .int .u64 m1, .string s9, .slice (some ⟨b3, off3, none⟩) 3 c2]).cell 3
      have g2 : (wr.alloc (.cells #[.int .i64 5, .int .u64 m1, .string s9, .slice (some ⟨b3, off3, none⟩) 3 c2] 38)).drew.cell? ⟨b3, off3 + 1, none⟩ = some (.int .u64 x0.n) := (D1.cell (by simpa using hwb3)).trans a01
      have g3 : (wr.alloc (.cells #[.int .i64 5, .int .u64 m1, .string s9, .slice (some ⟨b3, off3, none⟩) 3 c2] 38)).drew.cell? ⟨b3, off3 + 4 + 2, none⟩ = some (.string x1.s) := (D1.cell (by simpa using hwb3)).trans a12
      have g4 : (wr.alloc (.cells #[.int .i64 5, .int .u64 m1, .string s9, .slice (some ⟨b3, off3, none⟩) 3 c2] 38)).drew.cell? ⟨b3, off3 + 8 + 2, none⟩ = some (.string x2.s) := (D1.cell (by simpa using hwb3)).trans a22
      have g9 : ((wr.alloc (.cells #[.int .i64 5, .int .u64 m1, .string s9, .slice (some ⟨b3, off3, none⟩) 3 c2] 38)).alloc (.cells #[.int .i64 x0.n, .string x1.s, .string x2.s] 63)).cell? ⟨w.heap.size + 1 + 1, 1, none⟩ = some (.slice AX nX cX) := (World.cell?_alloc_lt _ _ _ l1).trans g0
      have l5 : w.heap.size + 2 < (wr.alloc (.cells #[.int .i64 5, .int .u64 m1, .string s9, .slice (some ⟨b3, off3, none⟩) 3 c2] 38)).drew.heap.size := l1
      have l6 : wr.heap.size < (wr.alloc (.cells #[.int .i64 5, .int .u64 m1, .string s9, .slice (some ⟨b3, off3, none⟩) 3 c2] 38)).drew.heap.size := by simp
      have l7 : b3 < (wr.alloc (.cells #[.int .i64 5, .int .u64 m1, .string s9, .slice (some ⟨b3, off3, none⟩) 3 c2] 38)).drew.heap.size := l0
      clear hL f0 hn0 htj hvj hO kE kR hown0 D1 hl40
      go_wp2_with fail
      refine mix.region_D (fun w' => w'.cell? ⟨w.heap.size + 2, 1, none⟩ = some (.slice AX nX cX) ∧ w'.cell? ⟨wr.heap.size, 3, none⟩ = some (.slice (some ⟨b3, off3, none⟩) 3 c2) ∧ w'.cell? ⟨b3, off3 + 1, none⟩ = some (.int .u64 x0.n) ∧ w'.cell? ⟨b3, off3 + 4 + 2, none⟩ = some (.string x1.s) ∧ w'.cell? ⟨b3, off3 + 8 + 2, none⟩ = some (.string x2.s)) (fun j => j == 22) (by kernel_rfl) ?_
      refine mix.D_take (i := 0) (v := ?_) rfl (by kernel_rfl) (by kernel_rfl) (fun _ _ _ h => h) (Or.inl ⟨by rfl, ?_⟩) ⟨g0, g1, g2, g3, g4⟩ ?_
      rotate_left
      · intro w' hSw
        go_split_ands
        try simp only [List.getElem_toArray, List.getElem_cons_zero, List.getElem_cons_succ]
        go_simp
        exact rfl
      try simp only [Act.put, List.getElem_toArray, List.getElem_cons_zero, List.getElem_cons_succ, List.setIfInBounds_toArray, List.set_cons_zero, List.set_cons_succ]
      refine mix.D_take (i := 1) (v := ?_) rfl (by kernel_rfl) (by kernel_rfl) (fun _ _ _ h => h) (Or.inl ⟨by rfl, ?_⟩) ⟨g0, g1, g2, g3, g4⟩ ?_
      rotate_left
      · intro w' hSw
        go_split_ands
        try simp only [List.getElem_toArray, List.getElem_cons_zero, List.getElem_cons_succ]
        go_simp
        exact rfl
      try simp only [Act.put, List.getElem_toArray, List.getElem_cons_zero, List.getElem_cons_succ, List.setIfInBounds_toArray, List.set_cons_zero, List.set_cons_succ]
      refine mix.D_take (i := 2) (v := ?_) rfl (by kernel_rfl) (by kernel_rfl) (fun _ _ _ h => h) (Or.inl ⟨by rfl, ?_⟩) ⟨g0, g1, g2, g3, g4⟩ ?_
      rotate_left
      · intro w' hSw
        go_split_ands
        try simp only [List.getElem_toArray, List.getElem_cons_zero, List.getElem_cons_succ]
        go_simp
        exact rfl
      try simp only [Act.put, List.getElem_toArray, List.getElem_cons_zero, List.getElem_cons_succ, List.setIfInBounds_toArray, List.set_cons_zero, List.set_cons_succ]
      refine mix.D_take (i := 3) (v := ?_) rfl (by kernel_rfl) (by kernel_rfl) (fun _ _ _ h => h) (Or.inl ⟨by rfl, ?_⟩) ⟨g0, g1, g2, g3, g4⟩ ?_
      rotate_left
      · intro w' hSw
        go_split_ands
        try simp only [List.getElem_toArray, List.getElem_cons_zero, List.getElem_cons_succ]
        go_simp
        exact rfl
      try simp only [Act.put, List.getElem_toArray, List.getElem_cons_zero, List.getElem_cons_succ, List.setIfInBounds_toArray, List.set_cons_zero, List.set_cons_succ]
      refine mix.D_take (i := 4) (v := ?_) rfl (by kernel_rfl) (by kernel_rfl) (fun _ _ _ h => h) (Or.inl ⟨by rfl, ?_⟩) ⟨g0, g1, g2, g3, g4⟩ ?_
      rotate_left
      · intro w' hSw
        go_split_ands
        try simp only [List.getElem_toArray, List.getElem_cons_zero, List.getElem_cons_succ]
        go_simp
        exact rfl
      try simp only [Act.put, List.getElem_toArray, List.getElem_cons_zero, List.getElem_cons_succ, List.setIfInBounds_toArray, List.set_cons_zero, List.set_cons_succ]
      refine mix.D_take (i := 5) (v := ?_) rfl (by kernel_rfl) (by kernel_rfl) (fun _ _ _ h => h) (Or.inl ⟨by rfl, ?_⟩) ⟨g0, g1, g2, g3, g4⟩ ?_
      rotate_left
      · intro w' hSw
        go_split_ands
        try simp only [List.getElem_toArray, List.getElem_cons_zero, List.getElem_cons_succ]
        go_simp
        exact rfl
      try simp only [Act.put, List.getElem_toArray, List.getElem_cons_zero, List.getElem_cons_succ, List.setIfInBounds_toArray, List.set_cons_zero, List.set_cons_succ]
      refine mix.D_take (i := 6) (v := ?_) rfl (by kernel_rfl) (by kernel_rfl) (fun _ _ _ h => h) (Or.inl ⟨by rfl, ?_⟩) ⟨g0, g1, g2, g3, g4⟩ ?_
      rotate_left
      · intro w' hSw
        go_split_ands
        try simp only [List.getElem_toArray, List.getElem_cons_zero, List.getElem_cons_succ]
        go_simp
        exact rfl
      try simp only [Act.put, List.getElem_toArray, List.getElem_cons_zero, List.getElem_cons_succ, List.setIfInBounds_toArray, List.set_cons_zero, List.set_cons_succ]
      refine mix.D_take (i := 7) (v := ?_) rfl (by kernel_rfl) (by kernel_rfl) (fun _ _ _ h => h) (Or.inl ⟨by rfl, ?_⟩) ⟨g0, g1, g2, g3, g4⟩ ?_
      rotate_left
      · intro w' hSw
        go_split_ands
        try simp only [List.getElem_toArray, List.getElem_cons_zero, List.getElem_cons_succ]
        go_simp
        exact rfl
      try simp only [Act.put, List.getElem_toArray, List.getElem_cons_zero, List.getElem_cons_succ, List.setIfInBounds_toArray, List.set_cons_zero, List.set_cons_succ]
      refine mix.D_take (i := 8) (v := ?_) rfl (by kernel_rfl) (by kernel_rfl) (fun _ _ _ h => h) (Or.inl ⟨by rfl, ?_⟩) ⟨g0, g1, g2, g3, g4⟩ ?_
      rotate_left
      · intro w' hSw
        go_split_ands
        try simp only [List.getElem_toArray, List.getElem_cons_zero, List.getElem_cons_succ]
        go_simp
        exact rfl
      try simp only [Act.put, List.getElem_toArray, List.getElem_cons_zero, List.getElem_cons_succ, List.setIfInBounds_toArray, List.set_cons_zero, List.set_cons_succ]
      refine mix.D_take (i := 9) (v := ?_) rfl (by kernel_rfl) (by kernel_rfl) (fun _ _ _ h => h) (Or.inl ⟨by rfl, ?_⟩) ⟨g0, g1, g2, g3, g4⟩ ?_
      rotate_left
      · intro w' hSw
        go_split_ands
        try simp only [List.getElem_toArray, List.getElem_cons_zero, List.getElem_cons_succ]
        go_simp
        exact rfl
      try simp only [Act.put, List.getElem_toArray, List.getElem_cons_zero, List.getElem_cons_succ, List.setIfInBounds_toArray, List.set_cons_zero, List.set_cons_succ]
      refine mix.D_take (i := 10) (v := ?_) rfl (by kernel_rfl) (by kernel_rfl) (fun _ _ _ h => h) (Or.inl ⟨by rfl, ?_⟩) ⟨g0, g1, g2, g3, g4⟩ ?_
      rotate_left
      · intro w' hSw
        go_split_ands
        try simp only [List.getElem_toArray, List.getElem_cons_zero, List.getElem_cons_succ]
        go_simp
        exact rfl
      try simp only [Act.put, List.getElem_toArray, List.getElem_cons_zero, List.getElem_cons_succ, List.setIfInBounds_toArray, List.set_cons_zero, List.set_cons_succ]
      refine mix.D_take (i := 11) (v := ?_) rfl (by kernel_rfl) (by kernel_rfl) (fun _ _ _ h => h) (Or.inl ⟨by rfl, ?_⟩) ⟨g0, g1, g2, g3, g4⟩ ?_
      rotate_left
      · intro w' hSw
        go_split_ands
        try simp only [List.getElem_toArray, List.getElem_cons_zero, List.getElem_cons_succ]
        go_simp
        exact rfl
      try simp only [Act.put, List.getElem_toArray, List.getElem_cons_zero, List.getElem_cons_succ, List.setIfInBounds_toArray, List.set_cons_zero, List.set_cons_succ]
      refine mix.D_take (i := 12) (v := ?_) rfl (by kernel_rfl) (by kernel_rfl) (fun _ _ _ h => h) (Or.inl ⟨by rfl, ?_⟩) ⟨g0, g1, g2, g3, g4⟩ ?_
      rotate_left
      · intro w' hSw
        go_split_ands
        try simp only [List.getElem_toArray, List.getElem_cons_zero, List.getElem_cons_succ]
        go_simp
        exact rfl
      try simp only [Act.put, List.getElem_toArray, List.getElem_cons_zero, List.getElem_cons_succ, List.setIfInBounds_toArray, List.set_cons_zero, List.set_cons_succ]
      refine mix.D_take (i := 13) (v := ?_) rfl (by kernel_rfl) (by kernel_rfl) (fun _ _ _ h => h) (Or.inl ⟨by rfl, ?_⟩) ⟨g0, g1, g2, g3, g4⟩ ?_
      rotate_left
      · intro w' hSw
        go_split_ands
        try simp only [List.getElem_toArray, List.getElem_cons_zero, List.getElem_cons_succ]
        go_simp
        exact rfl
      try simp only [Act.put, List.getElem_toArray, List.getElem_cons_zero, List.getElem_cons_succ, List.setIfInBounds_toArray, List.set_cons_zero, List.set_cons_succ]
      refine mix.D_take (i := 14) (v := ?_) rfl (by kernel_rfl) (by kernel_rfl) (fun _ _ _ h => h) (Or.inl ⟨by rfl, ?_⟩) ⟨g0, g1, g2, g3, g4⟩ ?_
      rotate_left
      · intro w' hSw
        go_split_ands
        try simp only [List.getElem_toArray, List.getElem_cons_zero, List.getElem_cons_succ]
        go_simp
        exact rfl
      try simp only [Act.put, List.getElem_toArray, List.getElem_cons_zero, List.getElem_cons_succ, List.setIfInBounds_toArray, List.set_cons_zero, List.set_cons_succ]
      refine mix.D_take (i := 15) (v := ?_) rfl (by kernel_rfl) (by kernel_rfl) (fun _ _ _ h => h) (Or.inl ⟨by rfl, ?_⟩) ⟨g0, g1, g2, g3, g4⟩ ?_
      rotate_left
      · intro w' hSw
        go_split_ands
        try simp only [List.getElem_toArray, List.getElem_cons_zero, List.getElem_cons_succ]
        go_simp
        exact rfl
      try simp only [Act.put, List.getElem_toArray, List.getElem_cons_zero, List.getElem_cons_succ, List.setIfInBounds_toArray, List.set_cons_zero, List.set_cons_succ]
      refine mix.D_take (i := 16) (v := ?_) rfl (by kernel_rfl) (by kernel_rfl) (fun _ _ _ h => h) (Or.inl ⟨by rfl, ?_⟩) ⟨g0, g1, g2, g3, g4⟩ ?_
      rotate_left
      · intro w' hSw
        go_split_ands
        try simp only [List.getElem_toArray, List.getElem_cons_zero, List.getElem_cons_succ]
        go_simp
        exact rfl
      try simp only [Act.put, List.getElem_toArray, List.getElem_cons_zero, List.getElem_cons_succ, List.setIfInBounds_toArray, List.set_cons_zero, List.set_cons_succ]
      refine mix.D_take (i := 17) (v := ?_) rfl (by kernel_rfl) (by kernel_rfl) (fun _ _ _ h => h) (Or.inl ⟨by rfl, ?_⟩) ⟨g0, g1, g2, g3, g4⟩ ?_
      rotate_left
      · intro w' hSw
        go_split_ands
        try simp only [List.getElem_toArray, List.getElem_cons_zero, List.getElem_cons_succ]
        go_simp
        exact rfl
      try simp only [Act.put, List.getElem_toArray, List.getElem_cons_zero, List.getElem_cons_succ, List.setIfInBounds_toArray, List.set_cons_zero, List.set_cons_succ]
      refine mix.D_take (i := 18) (v := ?_) rfl (by kernel_rfl) (by kernel_rfl) (fun _ _ _ h => h) (Or.inl ⟨by rfl, ?_⟩) ⟨g0, g1, g2, g3, g4⟩ ?_
      rotate_left
      · intro w' hSw
        go_split_ands
        try simp only [List.getElem_toArray, List.getElem_cons_zero, List.getElem_cons_succ]
        go_simp
        exact rfl
      try simp only [Act.put, List.getElem_toArray, List.getElem_cons_zero, List.getElem_cons_succ, List.setIfInBounds_toArray, List.set_cons_zero, List.set_cons_succ]
      refine mix.D_op (k := 19) rfl rfl (by kernel_rfl) (fun K' hK => ?_)
      simp only [List.getElem_toArray, List.getElem_cons_zero, List.getElem_cons_succ]
      go_wp2_with fail
      refine hK.out _ _ (fun _ => ⟨(World.cell?_alloc_lt _ _ _ l5).trans g0, (World.cell?_alloc_lt _ _ _ l6).trans g1, (World.cell?_alloc_lt _ _ _ l7).trans g2, (World.cell?_alloc_lt _ _ _ l7).trans g3, (World.cell?_alloc_lt _ _ _ l7).trans g4⟩) ?_
      clear hK K'
      try simp only [Act.put, List.setIfInBounds_toArray, List.set_cons_zero, List.set_cons_succ]
      refine mix.D_op (k := 20) rfl rfl (by kernel_rfl) (fun K' hK => ?_)
      simp only [List.getElem_toArray, List.getElem_cons_zero, List.getElem_cons_succ]
      refine wp_V (.tmp 21) (.tmp 39) rfl hO9 rfl hlo9 hfit (cs := #[.int .i64 x0.n, .string x1.s, .string x2.s]) rfl rfl (by simp) hle ?_
      intro v5 w5 hO5 hb5 hz5 hk5 hkeep
      obtain ⟨A5, n5, c5, rfl, hn5⟩ := hO5.shape
      have kE5 := hkeep _ _ _ (by decide) kE9
      have kR5 := hkeep _ _ _ (by decide) kR9
      have f1 := kE5.frozen 1
      have z1 : w5.cell? ⟨w.heap.size + 2, 1, none⟩ = some (.slice AX nX cX) := kE5.cell 1
      refine hK.out _ _ (fun _ => ⟨z1, (hk5 _ l6 hneX).trans g1, (hk5 _ l7 hneB).trans g2, (hk5 _ l7 hneB).trans g3, (hk5 _ l7 hneB).trans g4⟩) ?_
      clear hK K'
      try simp only [Act.put, List.setIfInBounds_toArray, List.set_cons_zero, List.set_cons_succ]
      refine mix.D_take (i := 21) (v := ?_) rfl (by kernel_rfl) (by kernel_rfl) (fun _ _ _ h => h) (Or.inl ⟨by rfl, ?_⟩) ⟨z1, (hk5 _ l6 hneX).trans g1, (hk5 _ l7 hneB).trans g2, (hk5 _ l7 hneB).trans g3, (hk5 _ l7 hneB).trans g4⟩ ?_
      rotate_left
      · intro w' hSw
        go_split_ands
        try simp only [List.getElem_toArray, List.getElem_cons_zero, List.getElem_cons_succ]
        go_simp
        exact rfl
      try simp only [Act.put, List.getElem_toArray, List.getElem_cons_zero, List.getElem_cons_succ, List.setIfInBounds_toArray, List.set_cons_zero, List.set_cons_succ]
      refine mix.D_op (k := 22) rfl rfl (by kernel_rfl) (fun K' hK => ?_)
      simp only [List.getElem_toArray, List.getElem_cons_zero, List.getElem_cons_succ]
      have lE5 := kE5.lt
      have b5 : Below w.heap.size w w5 := b9.trans (hb5.mono (by omega))
      have hsz5 := b5.size
      go_wp2_with fail
      refine hK.out _ _ (fun h => by simp at h) ?_
      clear hK K'
      refine mix.D_done (by kernel_rfl) ?_ _
      go_wp2_with fail
      refine ⟨⟨j + 1, .slice A5 n5 c5, hlt, by go_num, by simpa using kE5.put 1 (.slice A5 n5 c5), ?_, kR5.far (by show w.heap.size + 1 ≠ w.heap.size + 2; omega) _, b5.setCell (by show w.heap.size ≤ w.heap.size + 2; omega) _, by simp; omega⟩, by simp [intOf]; omega⟩
      rw [htk.out]
      exact OwnV.setCell hO5 (by show w.heap.size + 2 < w.heap.size + 3; omega) _
    · rw [List.take_of_length_le (by omega)] at hO
      have lE := kE.lt
      have lR := kR.lt
      have y0 := kE.cell 0
      have y1 := kE.cell 1
      simp at y0 y1
      have z0 := kR.cell 0
      have z1 := kR.cell 1
      simp at z0 z1
      have f0 := kR.frozen 0
      have f1 := kR.frozen 1
      go_wp2_with fail
      refine bodyPost_ret (v := .agg #[.string x.s, .slice AX nX cX]) (by simp [results, Try.results44, go_sem, z0, z1]) rfl ?_
      obtain ⟨A6, c6, e6, hH⟩ := OwnV.hvs hO
      refine ⟨A6, c6, by rw [e6], ?_, (bw.setCell (by show w.heap.size ≤ w.heap.size + 1; omega) _).setCell (by show w.heap.size ≤ w.heap.size + 1; omega) _⟩
      exact hH.move (by omega) (by simp) (fun p p1 p2 => by
        rw [World.cell?_setCell_far _ _ _ _ (by intro e; simp at e; omega), World.cell?_setCell_far _ _ _ _ (by intro e; simp at e; omega)])

theorem toEntry_any (t : T) (A : Option Addr) (c : Nat) (w : World) (h : LiesS w w.heap.size t.l A c) (hv : entB t = true) :
    Calls Try.prog 44 #[.agg #[.int .i64 t.k, .int .u64 t.n, .string t.s, .slice A t.l.length c]] w (TEAns w (toEP t)) := by
  cases hh : headB t 2 with
  | false => rw [entB_head hh] at hv; cases hv
  | true =>
    obtain ⟨m, s, x, r, rfl, hk⟩ := headB_shape hh
    obtain ⟨b', off', A1, c1, e, hb, _, _⟩ := S_at h (j := 0) (by simp [T.l])
    cases e
    rw [entB_yes m s r hk] at hv
    exact toEntry_yes m s x r b' off' c w h (List.all_eq_true.1 hv)

end Go.Proofs.Ytanfjnahdnafnaa.nodes

/- What letheref06's From answers. -/

namespace Go.Proofs.Ytanfjnahdnafnaa.nodes
set_option linter.unusedVariables false
set_option linter.unusedSimpArgs false
open Go.RowKit Go.Proofs.Ytanfjnahdnafnaa.base Go.Proofs.Ytanfjnahdnafnaa.quotas Go.Proofs.Ytanfjnahdnafnaa.vers Go.Proofs.Ytanfjnahdnafnaa.tm Go.Proofs.Ytanfjnahdnafnaa.lies Go.Proofs.Ytanfjnahdnafnaa.copies Go.Proofs.Ytanfjnahdnafnaa.makes

theorem Fx.far {w wr w' : World} {a b c d e f h : Int} {t : T} {u : Value} {B : Nat} (h1 : Fx w a b c d e f h t u wr) (hB : w.heap.size + 2 < B) (hs : wr.heap.size ≤ w'.heap.size) (hb : Below B wr w') : Fx w a b c d e f h t u w' := by
  obtain ⟨⟨⟨c0, c1, c2, c3, c4, c5, c6⟩, l1, l2, b1⟩, ⟨h2, h3, h5, h6⟩, h4⟩ := h1
  refine ⟨⟨⟨?_, ?_, ?_, ?_, ?_, ?_, ?_⟩, l1, by omega, b1.trans (hb.mono (by omega))⟩, ⟨?_, ?_, ?_, ?_⟩, h4.below hb (by omega)⟩ <;> (rw [hb.cell (by simp; omega)]; assumption)

set_option maxRecDepth 100000 in
set_option maxHeartbeats 1000000 in
theorem refFrom_bad1 (a b c d e f h : Int) (t : T) (A : Option Addr) (nl cap : Nat) (w : World) (hk : ¬ ok a b c d e f h) :
    Calls Try.prog 20 #[.agg #[.int .i64 a, .int .i64 b, .int .i64 c, .int .i64 d, .int .i64 e, .int .i64 f, .int .i64 h], .agg #[.int .i64 t.k, .int .u64 t.n, .string t.s, .slice A nl cap]] w (NAns w (zN, 40)) := by
  have F0 := Fx.new w a b c d e f h t (.slice A nl cap)
  go_enter Try.func20, Try.ntmps20
  go_wp2_with fail
  refine (quotas.refRight_no _ _ _ _ _ _ _ _ hk).mono ?_
  rintro x w1 ⟨rfl, hb1⟩
  have F1 := F0.next hb1
  clear F0 hb1
  obtain ⟨⟨⟨c0, c1, c2, c3, c4, c5, c6⟩, l1, l2, b1⟩, ⟨y0, y1, y2, y3⟩, k1⟩ := id F1
  have lk := k1.lt
  have z0 := k1.cell 0
  have z1 := k1.cell 1
  have z2 := k1.cell 2
  simp at z0 z1 z2
  have f0 := k1.frozen 0
  have f1 := k1.frozen 1
  have f2 := k1.frozen 2
  go_wp2_with fail
  refine bodyPost_ret (v := .tuple #[.agg #[.bool false, .slice none 0 0, .slice none 0 0], .int .i64 40]) (by simp [results, Try.results20, go_sem, z0, z1, z2]) rfl ?_
  exact NAns.bad _ (three_below b1 (by omega) _ _ _)

set_option maxRecDepth 100000 in
set_option maxHeartbeats 1000000 in
theorem refFrom_bad2 (a b c d e f h : Int) (t : T) (A : Option Addr) (cap : Nat) (w : World) (hL : Lies w w.heap.size t (.slice A t.l.length cap)) (hk : ok a b c d e f h) (n : Int) (hn : t.right = n) (hz : n ≠ 0) :
    Calls Try.prog 20 #[.agg #[.int .i64 a, .int .i64 b, .int .i64 c, .int .i64 d, .int .i64 e, .int .i64 f, .int .i64 h], .agg #[.int .i64 t.k, .int .u64 t.n, .string t.s, .slice A t.l.length cap]] w (NAns w (zN, n)) := by
  have F0 := Fx.new w a b c d e f h t (.slice A t.l.length cap)
  have hr := fun wr (hb : Below w.heap.size w wr) => rights.refRight_any t _ wr ((Lies.below hL hb).now hb.size)
  rw [hn] at hr
  unfold T.val at hr
  have d1 : (n != 0) = true := by simpa using hz
  clear hz hn hL
  generalize t.l.length = nl at *
  go_enter Try.func20, Try.ntmps20
  go_wp2_with fail
  refine (quotas.refRight_ok _ _ _ _ _ _ _ _ hk).mono ?_
  rintro x w1 ⟨rfl, hb1⟩
  have F1 := F0.next hb1
  clear F0 hb1
  obtain ⟨⟨⟨c0, c1, c2, c3, c4, c5, c6⟩, l1, l2, b1⟩, ⟨y0, y1, y2, y3⟩, k1⟩ := id F1
  have lk := k1.lt
  go_wp2_with fail
  refine (hr _ b1).mono ?_
  rintro x w2 ⟨rfl, hb2⟩
  have F2 := F1.next hb2
  clear F1 hb2 c0 c1 c2 c3 c4 c5 c6 l1 l2 b1 y0 y1 y2 y3 k1 lk
  obtain ⟨⟨⟨c0, c1, c2, c3, c4, c5, c6⟩, l1, l2, b1⟩, ⟨y0, y1, y2, y3⟩, k1⟩ := id F2
  have lk := k1.lt
  go_wp2_with fail
  refine (hr _ b1).mono ?_
  rintro x w3 ⟨rfl, hb3⟩
  have F3 := F2.next hb3
  clear F2 hb3 c0 c1 c2 c3 c4 c5 c6 l1 l2 b1 y0 y1 y2 y3 k1 lk hr
  obtain ⟨⟨⟨c0, c1, c2, c3, c4, c5, c6⟩, l1, l2, b1⟩, ⟨y0, y1, y2, y3⟩, k1⟩ := id F3
  have lk := k1.lt
  have z0 := k1.cell 0
  have z1 := k1.cell 1
  have z2 := k1.cell 2
  simp at z0 z1 z2
  have f0 := k1.frozen 0
  have f1 := k1.frozen 1
  have f2 := k1.frozen 2
  go_wp2_with fail
  refine bodyPost_ret (v := .tuple #[.agg #[.bool false, .slice none 0 0, .slice none 0 0], .int .i64 n]) (by simp [results, Try.results20, go_sem, z0, z1, z2]) rfl ?_
  exact NAns.bad _ (three_below b1 (by omega) _ _ _)

set_option maxRecDepth 100000 in
set_option maxHeartbeats 1000000 in
theorem refFrom_bad3 (a b c d e f h : Int) (t : T) (A : Option Addr) (cap : Nat) (w : World) (hL : Lies w w.heap.size t (.slice A t.l.length cap)) (hk : ok a b c d e f h) (hn : t.right = 0) (hz : nodB t = false) :
    Calls Try.prog 20 #[.agg #[.int .i64 a, .int .i64 b, .int .i64 c, .int .i64 d, .int .i64 e, .int .i64 f, .int .i64 h], .agg #[.int .i64 t.k, .int .u64 t.n, .string t.s, .slice A t.l.length cap]] w (NAns w (zN, 60)) := by
  have F0 := Fx.new w a b c d e f h t (.slice A t.l.length cap)
  have hr := fun wr (hb : Below w.heap.size w wr) => rights.refRight_any t _ wr ((Lies.below hL hb).now hb.size)
  rw [hn] at hr
  unfold T.val at hr
  have hd := fun wr (hb : Below w.heap.size w wr) => refFormed_any t A cap wr (S_world (S_of hL).1 hb)
  rw [hz] at hd
  clear hn hL hz
  generalize t.l.length = nl at *
  go_enter Try.func20, Try.ntmps20
  go_wp2_with fail
  refine (quotas.refRight_ok _ _ _ _ _ _ _ _ hk).mono ?_
  rintro x w1 ⟨rfl, hb1⟩
  have F1 := F0.next hb1
  clear F0 hb1
  obtain ⟨⟨⟨c0, c1, c2, c3, c4, c5, c6⟩, l1, l2, b1⟩, ⟨y0, y1, y2, y3⟩, k1⟩ := id F1
  have lk := k1.lt
  go_wp2_with fail
  refine (hr _ b1).mono ?_
  rintro x w2 ⟨rfl, hb2⟩
  have F2 := F1.next hb2
  clear F1 hb2 c0 c1 c2 c3 c4 c5 c6 l1 l2 b1 y0 y1 y2 y3 k1 lk hr
  obtain ⟨⟨⟨c0, c1, c2, c3, c4, c5, c6⟩, l1, l2, b1⟩, ⟨y0, y1, y2, y3⟩, k1⟩ := id F2
  have lk := k1.lt
  go_wp2_with fail
  refine (hd _ b1).mono ?_
  rintro x w3 ⟨rfl, hb3⟩
  have F3 := F2.next hb3
  clear F2 hb3 c0 c1 c2 c3 c4 c5 c6 l1 l2 b1 y0 y1 y2 y3 k1 lk hd
  obtain ⟨⟨⟨c0, c1, c2, c3, c4, c5, c6⟩, l1, l2, b1⟩, ⟨y0, y1, y2, y3⟩, k1⟩ := id F3
  have lk := k1.lt
  have z0 := k1.cell 0
  have z1 := k1.cell 1
  have z2 := k1.cell 2
  simp at z0 z1 z2
  have f0 := k1.frozen 0
  have f1 := k1.frozen 1
  have f2 := k1.frozen 2
  go_wp2_with fail
  refine bodyPost_ret (v := .tuple #[.agg #[.bool false, .slice none 0 0, .slice none 0 0], .int .i64 60]) (by simp [results, Try.results20, go_sem, z0, z1, z2]) rfl ?_
  exact NAns.bad _ (three_below b1 (by omega) _ _ _)

/-- a round's head of From -/
def FHdE (w : World) (a b c d e f h : Int) (m : Int) (s : ByteArray) (x : T) (r : List T) (bk off cap g : Nat) (i : Value) (wr : World) : Prop := ∃ (j : Nat) (u : Value) (es : List E), j ≤ r.length ∧ i = .int .i64 j ∧ Fx w a b c d e f h (T.mk 5 m s (x :: r)) (.slice (some ⟨bk, off, none⟩) (r.length + 1) cap) wr ∧ Blk wr g 27 #[.bool true, u, .slice none 0 0] ∧ OwnE (g + 1) wr es u ∧ Hid (es.map pe = (r.take j).map toEP)

set_option maxRecDepth 100000 in
set_option maxHeartbeats 1000000 in
theorem refFrom_leaf (a b c d e f h : Int) (m : Int) (s : ByteArray) (x : T) (r : List T) (bk off cap : Nat) (w : World) (hL : Lies w w.heap.size (T.mk 5 m s (x :: r)) (.slice (some ⟨bk, off, none⟩) (r.length + 1) cap)) (hk : ok a b c d e f h) (hn : (T.mk 5 m s (x :: r)).right = 0) (hz : nodB (T.mk 5 m s (x :: r)) = true) (hxn : x.n = 1) (hall : ∀ y ∈ r, entB y = true)
    (n : Int) (hnn : ndP a b c d e f h (true, r.map toEP, []) = n) (rr : P3 × Int) (hrr : (if n ≠ 0 then (zN, n) else ((true, r.map toEP, []), 0)) = rr) :
    Calls Try.prog 20 #[.agg #[.int .i64 a, .int .i64 b, .int .i64 c, .int .i64 d, .int .i64 e, .int .i64 f, .int .i64 h], .agg #[.int .i64 5, .int .u64 m, .string s, .slice (some ⟨bk, off, none⟩) (r.length + 1) cap]] w (NAns w rr) := by
  have F0 := Fx.new w a b c d e f h (T.mk 5 m s (x :: r)) (.slice (some ⟨bk, off, none⟩) (r.length + 1) cap)
  have hr := fun wr (hb : Below w.heap.size w wr) => rights.refRight_any (T.mk 5 m s (x :: r)) _ wr ((Lies.below hL hb).now hb.size)
  rw [hn] at hr
  have hd := fun wr (hb : Below w.heap.size w wr) => refFormed_any (T.mk 5 m s (x :: r)) (some ⟨bk, off, none⟩) cap wr (S_world (S_of hL).1 hb)
  rw [hz] at hd
  simp only [T.k, T.n, T.s, T.l, T.val, List.length_cons] at hr hd F0
  have hS0 : LiesS w w.heap.size (x :: r) (some ⟨bk, off, none⟩) cap := (S_of hL).1
  obtain ⟨A', c', hrun, hS⟩ := run_tail hS0
  obtain ⟨b', off', A1, c1, e1, hb, hl0, p0⟩ := S_at hS0 (j := 0) (by simp)
  cases e1
  clear hl0
  simp only [Nat.zero_mul, Nat.add_zero, List.getElem_cons_zero] at p0
  obtain ⟨_, p01, _, _⟩ := p0
  have hlen : r.length + 1 ≤ 140737488355328 := by obtain ⟨_, _, h2, _⟩ := hS0; simp at h2; omega
  have hlen56 : Hid ((r.length + 1) * 56 ≤ 140737488355328) := vers.lay (by obtain ⟨_, _, h2, _⟩ := hS0; simpa using h2)
  have d3 : (0 : Int) < (r.length : Int) + 1 := by omega
  have d1 : (x.n == 1) = true := by simp [hxn]
  have HN := vers.lay hnn
  have HRR := vers.lay hrr
  clear hn hL hz hxn hnn hrr hS0
  go_enter Try.func20, Try.ntmps20
  go_wp2_with fail
  refine (quotas.refRight_ok _ _ _ _ _ _ _ _ hk).mono ?_
  rintro z w1 ⟨rfl, hb1⟩
  have F1 := F0.next hb1
  clear F0 hb1
  obtain ⟨⟨⟨c0, c1, c2, c3, c4, c5, c6⟩, l1, l2, b1⟩, ⟨y0, y1, y2, y3⟩, k1⟩ := id F1
  have lk := k1.lt
  simp only [T.k, T.n, T.s] at y0 y1 y2
  go_wp2_with fail
  refine (hr _ b1).mono ?_
  rintro z w2 ⟨rfl, hb2⟩
  have F2 := F1.next hb2
  clear F1 hb2 c0 c1 c2 c3 c4 c5 c6 l1 l2 b1 y0 y1 y2 y3 k1 lk hr
  obtain ⟨⟨⟨c0, c1, c2, c3, c4, c5, c6⟩, l1, l2, b1⟩, ⟨y0, y1, y2, y3⟩, k1⟩ := id F2
  have lk := k1.lt
  simp only [T.k, T.n, T.s] at y0 y1 y2
  go_wp2_with fail
  refine (hd _ b1).mono ?_
  rintro z w3 ⟨rfl, hb3⟩
  have F3 := F2.next hb3
  clear F2 hb3 c0 c1 c2 c3 c4 c5 c6 l1 l2 b1 y0 y1 y2 y3 k1 lk hd
  obtain ⟨⟨⟨c0, c1, c2, c3, c4, c5, c6⟩, l1, l2, b1⟩, ⟨y0, y1, y2, y3⟩, k1⟩ := id F3
  have lk := k1.lt
  simp only [T.k, T.n, T.s] at y0 y1 y2
  have p03 : w3.cell? ⟨bk, off + 1, none⟩ = some (.int .u64 x.n) := (b1.cell hb).trans p01
  have hb3 : bk < w3.heap.size := Nat.lt_of_lt_of_le hb b1.size
  have D4 : Below w3.heap.size w3 (w3.alloc (.cells #[.bool true, .slice none 0 0, .slice none 0 0] 27)) := (Below.refl _ _).alloc (Nat.le_refl _) _
  have F4 := F3.next D4
  have N4 := Blk.new w3 27 #[.bool true, .slice none 0 0, .slice none 0 0]
  have H0 : FHdE w a b c d e f h m s x r bk off cap w3.heap.size (.int .i64 0) (w3.alloc (.cells #[.bool true, .slice none 0 0, .slice none 0 0] 27)) := ⟨0, _, [], Nat.zero_le _, rfl, F4, N4, OwnE.nil _ _, vers.lay rfl⟩
  clear D4 F4 N4
  have lk1 : w.heap.size + 1 < w3.heap.size := by omega
  go_wp2_with fail
  have hg : w.heap.size + 2 < w3.heap.size := lk
  clear c0 c1 c2 c3 c4 c5 c6 l1 l2 b1 y0 y1 y2 y3 k1 lk F3 lk1 hb3 p03
  generalize w3.heap.size = g at *
  go_loopw [35] (fun i wr => FHdE w a b c d e f h m s x r bk off cap g i wr) (fun i _ => r.length - (intOf i).toNat)
  case atStart => exact H0
  case round =>
    clear H0
    obtain ⟨j, u, es, hj, rfl, F5, kN, hO, hes⟩ := hrel
    obtain ⟨AX, nX, cX, rfl, hnX⟩ := hO.shape
    have lN := kN.lt
    have nb0 := kN.cell 0
    have nb1 := kN.cell 1
    have nb2 := kN.cell 2
    simp at nb0 nb1 nb2
    have bw := F5.below
    by_cases hlt : j < r.length
    · obtain ⟨b2, off2, A9, c9, rfl, hb2, hL9, p0, p1, p2, p3⟩ := S_at (S_keep hS bw) hlt
      have hvj := hall _ (List.getElem_mem hlt)
      have htk := vers.lay (map_take toEP r hlt)
      have j0 : (0 : Int) ≤ (j : Int) := by omega
      have hl56 : r[j].l.length ≤ 140737488355328 := by obtain ⟨_, _, h2, _⟩ := (S_of hL9).1; omega
      have D1 : Below wr.heap.size wr (wr.alloc (.cells #[.int .i64 r[j].k, .int .u64 r[j].n, .string r[j].s, .slice A9 r[j].l.length c9] 38)).drew := ((Below.refl _ _).alloc (Nat.le_refl _) _).drew
      have hS1 : LiesS (wr.alloc (.cells #[.int .i64 r[j].k, .int .u64 r[j].n, .string r[j].s, .slice A9 r[j].l.length c9] 38)).drew (wr.alloc (.cells #[.int .i64 r[j].k, .int .u64 r[j].n, .string r[j].s, .slice A9 r[j].l.length c9] 38)).drew.heap.size r[j].l A9 c9 := S_more (S_keep (S_more (S_of hL9).1 bw.size) D1) D1.size
      have hc := toEntry_any r[j] A9 c9 _ hS1 hvj
      have hfs : (toEP r[j]).1.size ≤ maxLen := by
        cases hl : r[j].l with
        | nil => unfold toEP; rw [hl]; exact Nat.zero_le _
        | cons y l2 =>
          have := (S_fits hS1 (x := y) (by rw [hl]; simp)).2
          unfold toEP; rw [hl]; exact this
      have hln : es.length = j := by have := congrArg List.length hes.out; simp at this; omega
      have hl40 : Hid ((es.length + 1) * 40 ≤ 140737488355328) := vers.lay (by have := hlen56.out; omega)
      generalize hy : toEP r[j] = y at hc hfs htk
      obtain ⟨s1, m1⟩ := y
      clear hy hS1 hL9 hvj
      generalize r[j].l.length = nl at *
      have hown0 : ∀ k, (Value.slice AX nX cX).ownBlock = some k → g + 1 ≤ k ∧ k < wr.heap.size := hO.own
      have hneE : some g ≠ (Value.slice AX nX cX).ownBlock := fun e => by have := hown0 _ e.symm; omega
      have hneX : some wr.heap.size ≠ (Value.slice AX nX cX).ownBlock := fun e => by have := hown0 _ e.symm; omega
      have xb := Blk.new wr 38 #[.int .i64 r[j].k, .int .u64 r[j].n, .string r[j].s, .slice A9 nl c9]
      have g0 : (wr.alloc (.cells #[.int .i64 r[j].k, .int .u64 r[j].n, .string r[j].s, .slice A9 nl c9] 38)).drew.cell? ⟨g, 1, none⟩ = some (.slice AX nX cX) := (D1.cell (by simpa using lN)).trans (kN.cell 1)
      have g1 : (wr.alloc (.cells #[.int .i64 r[j].k, .int .u64 r[j].n, .string r[j].s, .slice A9 nl c9] 38)).drew.cell? ⟨wr.heap.size, 0, none⟩ = some (.int .i64 r[j].k) := xb.cell 0
      have g2 : (wr.alloc (.cells #[.int .i64 r[j].k, .int .u64 r[j].n, .string r[j].s, .slice A9 nl c9] 38)).drew.cell? ⟨wr.heap.size, 1, none⟩ = some (.int .u64 r[j].n) := xb.cell 1
      have g3 : (wr.alloc (.cells #[.int .i64 r[j].k, .int .u64 r[j].n, .string r[j].s, .slice A9 nl c9] 38)).drew.cell? ⟨wr.heap.size, 2, none⟩ = some (.string r[j].s) := xb.cell 2
      have g4 : (wr.alloc (.cells #[.int .i64 r[j].k, .int .u64 r[j].n, .string r[j].s, .slice A9 nl c9] 38)).drew.cell? ⟨wr.heap.size, 3, none⟩ = some (.slice A9 nl c9) := xb.cell 3
      have l5 : g < (wr.alloc (.cells #[.int .i64 r[j].k, .int .u64 r[j].n, .string r[j].s, .slice A9 nl c9] 38)).drew.heap.size := Nat.lt_of_lt_of_le lN D1.size
      have l6 : wr.heap.size < (wr.alloc (.cells #[.int .i64 r[j].k, .int .u64 r[j].n, .string r[j].s, .slice A9 nl c9] 38)).drew.heap.size := by simp
      clear xb
      go_wp2_with fail
      refine mix.region_D (fun w' => w'.cell? ⟨g, 1, none⟩ = some (.slice AX nX cX) ∧ w'.cell? ⟨wr.heap.size, 0, none⟩ = some (.int .i64 r[j].k) ∧ w'.cell? ⟨wr.heap.size, 1, none⟩ = some (.int .u64 r[j].n) ∧ w'.cell? ⟨wr.heap.size, 2, none⟩ = some (.string r[j].s) ∧ w'.cell? ⟨wr.heap.size, 3, none⟩ = some (.slice A9 nl c9)) (fun j => j == 7) (by kernel_rfl) ?_
      refine mix.D_take (i := 0) (v := ?_) rfl (by kernel_rfl) (by kernel_rfl) (fun _ _ _ h => h) (Or.inl ⟨by rfl, ?_⟩) ⟨g0, g1, g2, g3, g4⟩ ?_
      rotate_left
      · intro w' hSw
        go_split_ands
        try simp only [List.getElem_toArray, List.getElem_cons_zero, List.getElem_cons_succ]
        go_simp
        exact rfl
      try simp only [Act.put, List.getElem_toArray, List.getElem_cons_zero, List.getElem_cons_succ, List.setIfInBounds_toArray, List.set_cons_zero, List.set_cons_succ]
      refine mix.D_take (i := 1) (v := ?_) rfl (by kernel_rfl) (by kernel_rfl) (fun _ _ _ h => h) (Or.inl ⟨by rfl, ?_⟩) ⟨g0, g1, g2, g3, g4⟩ ?_
      rotate_left
      · intro w' hSw
        go_split_ands
        try simp only [List.getElem_toArray, List.getElem_cons_zero, List.getElem_cons_succ]
        go_simp
        exact rfl
      try simp only [Act.put, List.getElem_toArray, List.getElem_cons_zero, List.getElem_cons_succ, List.setIfInBounds_toArray, List.set_cons_zero, List.set_cons_succ]
      refine mix.D_take (i := 2) (v := ?_) rfl (by kernel_rfl) (by kernel_rfl) (fun _ _ _ h => h) (Or.inl ⟨by rfl, ?_⟩) ⟨g0, g1, g2, g3, g4⟩ ?_
      rotate_left
      · intro w' hSw
        go_split_ands
        try simp only [List.getElem_toArray, List.getElem_cons_zero, List.getElem_cons_succ]
        go_simp
        exact rfl
      try simp only [Act.put, List.getElem_toArray, List.getElem_cons_zero, List.getElem_cons_succ, List.setIfInBounds_toArray, List.set_cons_zero, List.set_cons_succ]
      refine mix.D_op (k := 3) rfl rfl (by kernel_rfl) (fun K' hK => ?_)
      simp only [List.getElem_toArray, List.getElem_cons_zero, List.getElem_cons_succ]
      go_wp2_with fail
      refine hc.mono ?_
      rintro z w4 ⟨A2, c2, rfl, hH, hb4⟩
      simp only at hH
      generalize hml : m1.length = ml at *
      have HML := vers.lay hml
      clear hml
      have q0 := (hb4.cell (p := ⟨g, 1, none⟩) l5).trans g0
      have q1 := (hb4.cell (p := ⟨wr.heap.size, 0, none⟩) l6).trans g1
      have q2 := (hb4.cell (p := ⟨wr.heap.size, 1, none⟩) l6).trans g2
      have q3 := (hb4.cell (p := ⟨wr.heap.size, 2, none⟩) l6).trans g3
      have q4 := (hb4.cell (p := ⟨wr.heap.size, 3, none⟩) l6).trans g4
      have l7 : g < w4.heap.size := Nat.lt_of_lt_of_le l5 hb4.size
      have l8 : wr.heap.size < w4.heap.size := Nat.lt_of_lt_of_le l6 hb4.size
      have D5 := D1.trans (hb4.mono D1.size)
      have hO4 := hO.below D5
      have kN4 := kN.below D5 lN
      have hz4 := D5.size
      clear hO kN D1 g0 g1 g2 g3 g4 l5 l6 hc p0 p1 p2 p3 nb0 nb1 nb2
      go_wp2_with fail
      refine hK.out _ _ (fun _ => ⟨q0, q1, q2, q3, q4⟩) ?_
      clear hK K'
      try simp only [Act.put, List.setIfInBounds_toArray, List.set_cons_zero, List.set_cons_succ]
      refine mix.D_op (k := 4) rfl rfl (by kernel_rfl) (fun K' hK => ?_)
      simp only [List.getElem_toArray, List.getElem_cons_zero, List.getElem_cons_succ]
      go_wp2_with fail
      refine hK.out _ _ (fun _ => ⟨(World.cell?_alloc_lt _ _ _ l7).trans q0, (World.cell?_alloc_lt _ _ _ l8).trans q1, (World.cell?_alloc_lt _ _ _ l8).trans q2, (World.cell?_alloc_lt _ _ _ l8).trans q3, (World.cell?_alloc_lt _ _ _ l8).trans q4⟩) ?_
      clear hK K'
      try simp only [Act.put, List.setIfInBounds_toArray, List.set_cons_zero, List.set_cons_succ]
      refine mix.D_op (k := 5) rfl rfl (by kernel_rfl) (fun K' hK => ?_)
      simp only [List.getElem_toArray, List.getElem_cons_zero, List.getElem_cons_succ]
      have hml := HML.out
      subst hml
      refine wp_E (.tmp 42) (.tmp 45) rfl (y := ⟨s1, m1, A2, c2⟩) hO4 rfl (by omega) (hH.move (lo' := wr.heap.size + 1) (by simp) (Nat.le_refl _) (fun _ _ _ => rfl)) hfs (Nat.le_refl _) (by omega) (fun k hk => Nat.lt_succ_of_lt (hown0 k hk).2) (cs := #[.string s1, .slice A2 m1.length c2]) rfl rfl rfl hl40.out ?_
      intro v5 w5 hO5 hb5 hz5 hk5 hkeep
      obtain ⟨A5, n5, c5, rfl, hn5⟩ := hO5.shape
      have kN5 := hkeep _ _ _ (by decide) kN4
      have f1 := kN5.frozen 1
      have z1 : w5.cell? ⟨g, 1, none⟩ = some (.slice AX nX cX) := kN5.cell 1
      have r1 := (hk5 ⟨wr.heap.size, 0, none⟩ l8 hneX).trans q1
      have r2 := (hk5 ⟨wr.heap.size, 1, none⟩ l8 hneX).trans q2
      have r3 := (hk5 ⟨wr.heap.size, 2, none⟩ l8 hneX).trans q3
      have r4 := (hk5 ⟨wr.heap.size, 3, none⟩ l8 hneX).trans q4
      refine hK.out _ _ (fun _ => ⟨z1, r1, r2, r3, r4⟩) ?_
      clear hK K'
      try simp only [Act.put, List.setIfInBounds_toArray, List.set_cons_zero, List.set_cons_succ]
      refine mix.D_take (i := 6) (v := ?_) rfl (by kernel_rfl) (by kernel_rfl) (fun _ _ _ h => h) (Or.inl ⟨by rfl, ?_⟩) ⟨z1, r1, r2, r3, r4⟩ ?_
      rotate_left
      · intro w' hSw
        go_split_ands
        try simp only [List.getElem_toArray, List.getElem_cons_zero, List.getElem_cons_succ]
        go_simp
        exact rfl
      try simp only [Act.put, List.getElem_toArray, List.getElem_cons_zero, List.getElem_cons_succ, List.setIfInBounds_toArray, List.set_cons_zero, List.set_cons_succ]
      refine mix.D_op (k := 7) rfl rfl (by kernel_rfl) (fun K' hK => ?_)
      simp only [List.getElem_toArray, List.getElem_cons_zero, List.getElem_cons_succ]
      have lN5 := kN5.lt
      have Dg : Below g wr w5 := (D5.mono (by omega)).trans (hb5.mono (by omega))
      clear hk5 hkeep hb5 q0 q1 q2 q3 q4 r1 r2 r3 r4 kN4 hO4
      go_wp2_with fail
      refine hK.out _ _ (fun h => by simp at h) ?_
      clear hK K'
      refine mix.D_done (by kernel_rfl) ?_ _
      go_wp2_with fail
      refine ⟨⟨j + 1, .slice A5 n5 c5, _, hlt, by go_num, F5.far hg (by simp; omega) (Dg.setCell (Nat.le_refl _) _), by simpa using kN5.put 1 (.slice A5 n5 c5), OwnE.setCell hO5 (Nat.lt_succ_self _) _, vers.lay ?_⟩, by simp [intOf]; omega⟩
      rw [List.map_append, hes.out, htk.out]
      rfl
    · rw [List.take_of_length_le (by omega)] at hes
      obtain ⟨A6, c6', e6, hH⟩ := OwnE.hes hO
      have hr6 : Es wr wr.heap.size es A6 c6' := hH _ _ (Nat.le_refl _) (fun _ _ _ => rfl)
      have hc := refNode_any a b c d e f h true es [] A6 c6' none 0 wr hr6 (HKs.nil wr wr.heap.size wr.heap.size wr wr.heap.size (Nat.le_refl _) (fun _ _ _ => rfl))
      rw [ndP_of, hes.out, HN.out] at hc
      have HX := vers.lay hH
      injection e6 with e61 e62 e63
      subst e61
      subst e63
      rw [← e62] at hc
      have HE62 := vers.lay e62
      clear hr6 hH hO e62
      simp only [List.length_nil] at hc
      obtain ⟨⟨⟨c0, c1, c2, c3, c4, c5, c6⟩, l1, l2, b1⟩, ⟨y0, y1, y2, y3⟩, k1⟩ := id F5
      have lk := k1.lt
      simp only [T.k, T.n, T.s] at y0 y1 y2
      by_cases hn0 : n = 0
      · have e1 : (n != 0) = false := by simp [hn0]
        have HRR2 := vers.lay (HRR.out.symm.trans (if_neg (by simpa using hn0)))
        clear HRR
        subst hn0
        go_wp2_with fail
        refine hc.mono ?_
        rintro z w5 ⟨rfl, hb5⟩
        have F6 := F5.next hb5
        have kN5 := kN.below hb5 lN
        have hz5 := hb5.size
        clear F5 kN c0 c1 c2 c3 c4 c5 c6 l1 l2 b1 y0 y1 y2 y3 k1 lk hc nb0 nb1 nb2
        obtain ⟨⟨⟨c0, c1, c2, c3, c4, c5, c6⟩, l1, l2, b1⟩, ⟨y0, y1, y2, y3⟩, k1⟩ := id F6
        have lk := k1.lt
        have n0 := kN5.cell 0
        have n1 := kN5.cell 1
        have n2 := kN5.cell 2
        simp at n0 n1 n2
        have z0 := k1.cell 0
        have z1 := k1.cell 1
        have z2 := k1.cell 2
        simp at z0 z1 z2
        have f0 := k1.frozen 0
        have f1 := k1.frozen 1
        have f2 := k1.frozen 2
        go_wp2_with fail
        refine bodyPost_ret (v := .tuple #[.agg #[.bool true, .slice AX nX cX, .slice none 0 0], .int .i64 0]) (by simp [results, Try.results20, go_sem, z0, z1, z2]) rfl ?_
        rw [HRR2.out]
        refine ⟨three_below b1 (by omega) _ _ _, es, AX, cX, none, 0, by rw [HE62.out]; rfl, hes.out, HX.out.move (by omega) (by simp; omega) ?_, HKs.nil _ _ _⟩
        intro p p1 p2
        rw [three_cell _ _ _ _ _ p (by omega), hb5.cell p2]
      · have e1 : (n != 0) = true := by simpa using hn0
        have HRR2 := vers.lay (HRR.out.symm.trans (if_pos hn0))
        clear HRR hn0
        go_wp2_with fail
        refine hc.mono ?_
        rintro z w5 ⟨rfl, hb5⟩
        have F6 := F5.next hb5
        clear F5 c0 c1 c2 c3 c4 c5 c6 l1 l2 b1 y0 y1 y2 y3 k1 lk hc nb0 nb1 nb2
        obtain ⟨⟨⟨c0, c1, c2, c3, c4, c5, c6⟩, l1, l2, b1⟩, ⟨y0, y1, y2, y3⟩, k1⟩ := id F6
        have lk := k1.lt
        have z0 := k1.cell 0
        have z1 := k1.cell 1
        have z2 := k1.cell 2
        simp at z0 z1 z2
        have f0 := k1.frozen 0
        have f1 := k1.frozen 1
        have f2 := k1.frozen 2
        go_wp2_with fail
        refine bodyPost_ret (v := .tuple #[.agg #[.bool false, .slice none 0 0, .slice none 0 0], .int .i64 n]) (by simp [results, Try.results20, go_sem, z0, z1, z2]) rfl ?_
        rw [HRR2.out]
        exact NAns.bad _ (three_below b1 (by omega) _ _ _)

/-- a round's head of From -/
def FHdK (w : World) (a b c d e f h : Int) (m : Int) (s : ByteArray) (x : T) (r : List T) (bk off cap g : Nat) (i : Value) (wr : World) : Prop := ∃ (j : Nat) (u : Value), j ≤ r.length ∧ i = .int .i64 j ∧ Fx w a b c d e f h (T.mk 5 m s (x :: r)) (.slice (some ⟨bk, off, none⟩) (r.length + 1) cap) wr ∧ Blk wr g 27 #[.bool false, .slice none 0 0, u] ∧ OwnK (g + 1) wr ((r.take j).map toK) u

set_option maxRecDepth 100000 in
set_option maxHeartbeats 1000000 in
theorem refFrom_inner (a b c d e f h : Int) (m : Int) (s : ByteArray) (x : T) (r : List T) (bk off cap : Nat) (w : World) (hL : Lies w w.heap.size (T.mk 5 m s (x :: r)) (.slice (some ⟨bk, off, none⟩) (r.length + 1) cap)) (hk : ok a b c d e f h) (hn : (T.mk 5 m s (x :: r)).right = 0) (hz : nodB (T.mk 5 m s (x :: r)) = true) (hxn : x.n = 2) (hall : ∀ y ∈ r, kidB y = true)
    (n : Int) (hnn : ndP a b c d e f h (false, [], r.map toK) = n) (rr : P3 × Int) (hrr : (if n ≠ 0 then (zN, n) else ((false, [], r.map toK), 0)) = rr) :
    Calls Try.prog 20 #[.agg #[.int .i64 a, .int .i64 b, .int .i64 c, .int .i64 d, .int .i64 e, .int .i64 f, .int .i64 h], .agg #[.int .i64 5, .int .u64 m, .string s, .slice (some ⟨bk, off, none⟩) (r.length + 1) cap]] w (NAns w rr) := by
  have F0 := Fx.new w a b c d e f h (T.mk 5 m s (x :: r)) (.slice (some ⟨bk, off, none⟩) (r.length + 1) cap)
  have hr := fun wr (hb : Below w.heap.size w wr) => rights.refRight_any (T.mk 5 m s (x :: r)) _ wr ((Lies.below hL hb).now hb.size)
  rw [hn] at hr
  have hd := fun wr (hb : Below w.heap.size w wr) => refFormed_any (T.mk 5 m s (x :: r)) (some ⟨bk, off, none⟩) cap wr (S_world (S_of hL).1 hb)
  rw [hz] at hd
  simp only [T.k, T.n, T.s, T.l, T.val, List.length_cons] at hr hd F0
  have hS0 : LiesS w w.heap.size (x :: r) (some ⟨bk, off, none⟩) cap := (S_of hL).1
  obtain ⟨A', c', hrun, hS⟩ := run_tail hS0
  obtain ⟨b', off', A1, c1, e1, hb, hl0, p0⟩ := S_at hS0 (j := 0) (by simp)
  cases e1
  clear hl0
  simp only [Nat.zero_mul, Nat.add_zero, List.getElem_cons_zero] at p0
  obtain ⟨_, p01, _, _⟩ := p0
  have hlen : r.length + 1 ≤ 140737488355328 := by obtain ⟨_, _, h2, _⟩ := hS0; simp at h2; omega
  have hlen56 : Hid ((r.length + 1) * 56 ≤ 140737488355328) := vers.lay (by obtain ⟨_, _, h2, _⟩ := hS0; simpa using h2)
  have d3 : (0 : Int) < (r.length : Int) + 1 := by omega
  have d1 : (x.n == 1) = false := by simp [hxn]
  have HN := vers.lay hnn
  have HRR := vers.lay hrr
  clear hn hL hz hxn hnn hrr hS0
  go_enter Try.func20, Try.ntmps20
  go_wp2_with fail
  refine (quotas.refRight_ok _ _ _ _ _ _ _ _ hk).mono ?_
  rintro z w1 ⟨rfl, hb1⟩
  have F1 := F0.next hb1
  clear F0 hb1
  obtain ⟨⟨⟨c0, c1, c2, c3, c4, c5, c6⟩, l1, l2, b1⟩, ⟨y0, y1, y2, y3⟩, k1⟩ := id F1
  have lk := k1.lt
  simp only [T.k, T.n, T.s] at y0 y1 y2
  go_wp2_with fail
  refine (hr _ b1).mono ?_
  rintro z w2 ⟨rfl, hb2⟩
  have F2 := F1.next hb2
  clear F1 hb2 c0 c1 c2 c3 c4 c5 c6 l1 l2 b1 y0 y1 y2 y3 k1 lk hr
  obtain ⟨⟨⟨c0, c1, c2, c3, c4, c5, c6⟩, l1, l2, b1⟩, ⟨y0, y1, y2, y3⟩, k1⟩ := id F2
  have lk := k1.lt
  simp only [T.k, T.n, T.s] at y0 y1 y2
  go_wp2_with fail
  refine (hd _ b1).mono ?_
  rintro z w3 ⟨rfl, hb3⟩
  have F3 := F2.next hb3
  clear F2 hb3 c0 c1 c2 c3 c4 c5 c6 l1 l2 b1 y0 y1 y2 y3 k1 lk hd
  obtain ⟨⟨⟨c0, c1, c2, c3, c4, c5, c6⟩, l1, l2, b1⟩, ⟨y0, y1, y2, y3⟩, k1⟩ := id F3
  have lk := k1.lt
  simp only [T.k, T.n, T.s] at y0 y1 y2
  have p03 : w3.cell? ⟨bk, off + 1, none⟩ = some (.int .u64 x.n) := (b1.cell hb).trans p01
  have hb3 : bk < w3.heap.size := Nat.lt_of_lt_of_le hb b1.size
  have D4 : Below w3.heap.size w3 (w3.alloc (.cells #[.bool false, .slice none 0 0, .slice none 0 0] 27)) := (Below.refl _ _).alloc (Nat.le_refl _) _
  have F4 := F3.next D4
  have N4 := Blk.new w3 27 #[.bool false, .slice none 0 0, .slice none 0 0]
  have H0 : FHdK w a b c d e f h m s x r bk off cap w3.heap.size (.int .i64 0) (w3.alloc (.cells #[.bool false, .slice none 0 0, .slice none 0 0] 27)) := ⟨0, _, Nat.zero_le _, rfl, F4, N4, OwnK.nil _ _⟩
  clear D4 F4 N4
  have lk1 : w.heap.size + 1 < w3.heap.size := by omega
  go_wp2_with fail
  have hg : w.heap.size + 2 < w3.heap.size := lk
  clear c0 c1 c2 c3 c4 c5 c6 l1 l2 b1 y0 y1 y2 y3 k1 lk F3 lk1 hb3 p03
  generalize w3.heap.size = g at *
  go_loopw [35] (fun i wr => FHdK w a b c d e f h m s x r bk off cap g i wr) (fun i _ => r.length - (intOf i).toNat)
  case atStart => exact H0
  case round =>
    clear H0
    obtain ⟨j, u, hj, rfl, F5, kN, hO⟩ := hrel
    obtain ⟨AX, nX, cX, rfl, hnX⟩ := hO.shape
    have lN := kN.lt
    have nb0 := kN.cell 0
    have nb1 := kN.cell 1
    have nb2 := kN.cell 2
    simp at nb0 nb1 nb2
    have bw := F5.below
    by_cases hlt : j < r.length
    · obtain ⟨b2, off2, A9, c9, rfl, hb2, hL9, p0, p1, p2, p3⟩ := S_at (S_keep hS bw) hlt
      have hvj := hall _ (List.getElem_mem hlt)
      have htk := vers.lay (map_take toK r hlt)
      have j0 : (0 : Int) ≤ (j : Int) := by omega
      have hl56 : r[j].l.length ≤ 140737488355328 := by obtain ⟨_, _, h2, _⟩ := (S_of hL9).1; omega
      have D1 : Below wr.heap.size wr (wr.alloc (.cells #[.int .i64 r[j].k, .int .u64 r[j].n, .string r[j].s, .slice A9 r[j].l.length c9] 38)).drew := ((Below.refl _ _).alloc (Nat.le_refl _) _).drew
      have hS1 : LiesS (wr.alloc (.cells #[.int .i64 r[j].k, .int .u64 r[j].n, .string r[j].s, .slice A9 r[j].l.length c9] 38)).drew (wr.alloc (.cells #[.int .i64 r[j].k, .int .u64 r[j].n, .string r[j].s, .slice A9 r[j].l.length c9] 38)).drew.heap.size r[j].l A9 c9 := S_more (S_keep (S_more (S_of hL9).1 bw.size) D1) D1.size
      have hc := toKid_any r[j] A9 c9 _ hS1 hvj
      have hfy := toK_fits hS1 hvj
      have hl48 : Hid ((((r.take j).map toK).length + 1) * 48 ≤ 140737488355328) := vers.lay (by have := hlen56.out; rw [List.length_map, List.length_take]; omega)
      generalize hy : toK r[j] = y at hc hfy htk
      clear hy hS1 hL9 hvj
      generalize r[j].l.length = nl at *
      have hown0 : ∀ k, (Value.slice AX nX cX).ownBlock = some k → g + 1 ≤ k ∧ k < wr.heap.size := hO.own
      have hneE : some g ≠ (Value.slice AX nX cX).ownBlock := fun e => by have := hown0 _ e.symm; omega
      have hneX : some wr.heap.size ≠ (Value.slice AX nX cX).ownBlock := fun e => by have := hown0 _ e.symm; omega
      have xb := Blk.new wr 38 #[.int .i64 r[j].k, .int .u64 r[j].n, .string r[j].s, .slice A9 nl c9]
      have g0 : (wr.alloc (.cells #[.int .i64 r[j].k, .int .u64 r[j].n, .string r[j].s, .slice A9 nl c9] 38)).drew.cell? ⟨g, 2, none⟩ = some (.slice AX nX cX) := (D1.cell (by simpa using lN)).trans (kN.cell 2)
      have g1 : (wr.alloc (.cells #[.int .i64 r[j].k, .int .u64 r[j].n, .string r[j].s, .slice A9 nl c9] 38)).drew.cell? ⟨wr.heap.size, 0, none⟩ = some (.int .i64 r[j].k) := xb.cell 0
      have g2 : (wr.alloc (.cells #[.int .i64 r[j].k, .int .u64 r[j].n, .string r[j].s, .slice A9 nl c9] 38)).drew.cell? ⟨wr.heap.size, 1, none⟩ = some (.int .u64 r[j].n) := xb.cell 1
      have g3 : (wr.alloc (.cells #[.int .i64 r[j].k, .int .u64 r[j].n, .string r[j].s, .slice A9 nl c9] 38)).drew.cell? ⟨wr.heap.size, 2, none⟩ = some (.string r[j].s) := xb.cell 2
      have g4 : (wr.alloc (.cells #[.int .i64 r[j].k, .int .u64 r[j].n, .string r[j].s, .slice A9 nl c9] 38)).drew.cell? ⟨wr.heap.size, 3, none⟩ = some (.slice A9 nl c9) := xb.cell 3
      have l5 : g < (wr.alloc (.cells #[.int .i64 r[j].k, .int .u64 r[j].n, .string r[j].s, .slice A9 nl c9] 38)).drew.heap.size := Nat.lt_of_lt_of_le lN D1.size
      have l6 : wr.heap.size < (wr.alloc (.cells #[.int .i64 r[j].k, .int .u64 r[j].n, .string r[j].s, .slice A9 nl c9] 38)).drew.heap.size := by simp
      clear xb
      go_wp2_with fail
      refine mix.region_D (fun w' => w'.cell? ⟨g, 2, none⟩ = some (.slice AX nX cX) ∧ w'.cell? ⟨wr.heap.size, 0, none⟩ = some (.int .i64 r[j].k) ∧ w'.cell? ⟨wr.heap.size, 1, none⟩ = some (.int .u64 r[j].n) ∧ w'.cell? ⟨wr.heap.size, 2, none⟩ = some (.string r[j].s) ∧ w'.cell? ⟨wr.heap.size, 3, none⟩ = some (.slice A9 nl c9)) (fun j => j == 7) (by kernel_rfl) ?_
      refine mix.D_take (i := 0) (v := ?_) rfl (by kernel_rfl) (by kernel_rfl) (fun _ _ _ h => h) (Or.inl ⟨by rfl, ?_⟩) ⟨g0, g1, g2, g3, g4⟩ ?_
      rotate_left
      · intro w' hSw
        go_split_ands
        try simp only [List.getElem_toArray, List.getElem_cons_zero, List.getElem_cons_succ]
        go_simp
        exact rfl
      try simp only [Act.put, List.getElem_toArray, List.getElem_cons_zero, List.getElem_cons_succ, List.setIfInBounds_toArray, List.set_cons_zero, List.set_cons_succ]
      refine mix.D_take (i := 1) (v := ?_) rfl (by kernel_rfl) (by kernel_rfl) (fun _ _ _ h => h) (Or.inl ⟨by rfl, ?_⟩) ⟨g0, g1, g2, g3, g4⟩ ?_
      rotate_left
      · intro w' hSw
        go_split_ands
        try simp only [List.getElem_toArray, List.getElem_cons_zero, List.getElem_cons_succ]
        go_simp
        exact rfl
      try simp only [Act.put, List.getElem_toArray, List.getElem_cons_zero, List.getElem_cons_succ, List.setIfInBounds_toArray, List.set_cons_zero, List.set_cons_succ]
      refine mix.D_take (i := 2) (v := ?_) rfl (by kernel_rfl) (by kernel_rfl) (fun _ _ _ h => h) (Or.inl ⟨by rfl, ?_⟩) ⟨g0, g1, g2, g3, g4⟩ ?_
      rotate_left
      · intro w' hSw
        go_split_ands
        try simp only [List.getElem_toArray, List.getElem_cons_zero, List.getElem_cons_succ]
        go_simp
        exact rfl
      try simp only [Act.put, List.getElem_toArray, List.getElem_cons_zero, List.getElem_cons_succ, List.setIfInBounds_toArray, List.set_cons_zero, List.set_cons_succ]
      refine mix.D_op (k := 3) rfl rfl (by kernel_rfl) (fun K' hK => ?_)
      simp only [List.getElem_toArray, List.getElem_cons_zero, List.getElem_cons_succ]
      go_wp2_with fail
      refine hc.mono ?_
      rintro z w4 ⟨rfl, hb4⟩
      have q0 := (hb4.cell (p := ⟨g, 2, none⟩) l5).trans g0
      have q1 := (hb4.cell (p := ⟨wr.heap.size, 0, none⟩) l6).trans g1
      have q2 := (hb4.cell (p := ⟨wr.heap.size, 1, none⟩) l6).trans g2
      have q3 := (hb4.cell (p := ⟨wr.heap.size, 2, none⟩) l6).trans g3
      have q4 := (hb4.cell (p := ⟨wr.heap.size, 3, none⟩) l6).trans g4
      have l7 : g < w4.heap.size := Nat.lt_of_lt_of_le l5 hb4.size
      have l8 : wr.heap.size < w4.heap.size := Nat.lt_of_lt_of_le l6 hb4.size
      have D5 := D1.trans (hb4.mono D1.size)
      have hO4 := hO.below D5
      have kN4 := kN.below D5 lN
      have hz4 := D5.size
      clear hO kN D1 g0 g1 g2 g3 g4 l5 l6 hc p0 p1 p2 p3 nb0 nb1 nb2
      go_wp2_with fail
      refine hK.out _ _ (fun _ => ⟨q0, q1, q2, q3, q4⟩) ?_
      clear hK K'
      try simp only [Act.put, List.setIfInBounds_toArray, List.set_cons_zero, List.set_cons_succ]
      refine mix.D_op (k := 4) rfl rfl (by kernel_rfl) (fun K' hK => ?_)
      simp only [List.getElem_toArray, List.getElem_cons_zero, List.getElem_cons_succ]
      go_wp2_with fail
      refine hK.out _ _ (fun _ => ⟨(World.cell?_alloc_lt _ _ _ l7).trans q0, (World.cell?_alloc_lt _ _ _ l8).trans q1, (World.cell?_alloc_lt _ _ _ l8).trans q2, (World.cell?_alloc_lt _ _ _ l8).trans q3, (World.cell?_alloc_lt _ _ _ l8).trans q4⟩) ?_
      clear hK K'
      try simp only [Act.put, List.setIfInBounds_toArray, List.set_cons_zero, List.set_cons_succ]
      refine mix.D_op (k := 5) rfl rfl (by kernel_rfl) (fun K' hK => ?_)
      simp only [List.getElem_toArray, List.getElem_cons_zero, List.getElem_cons_succ]
      refine wp_K (.tmp 49) (.tmp 52) rfl hO4 rfl (by omega) hfy (cs := #[.string y.s, .int .u64 (y.k : Int), .int .i64 y.g, .int .i64 y.o, .int .i64 y.n]) rfl rfl rfl hl48.out ?_
      intro v5 w5 hO5 hb5 hz5 hk5 hkeep
      obtain ⟨A5, n5, c5, rfl, hn5⟩ := hO5.shape
      have kN5 := hkeep _ _ _ (by decide) kN4
      have f1 := kN5.frozen 2
      have z1 : w5.cell? ⟨g, 2, none⟩ = some (.slice AX nX cX) := kN5.cell 2
      have r1 := (hk5 ⟨wr.heap.size, 0, none⟩ l8 hneX).trans q1
      have r2 := (hk5 ⟨wr.heap.size, 1, none⟩ l8 hneX).trans q2
      have r3 := (hk5 ⟨wr.heap.size, 2, none⟩ l8 hneX).trans q3
      have r4 := (hk5 ⟨wr.heap.size, 3, none⟩ l8 hneX).trans q4
      refine hK.out _ _ (fun _ => ⟨z1, r1, r2, r3, r4⟩) ?_
      clear hK K'
      try simp only [Act.put, List.setIfInBounds_toArray, List.set_cons_zero, List.set_cons_succ]
      refine mix.D_take (i := 6) (v := ?_) rfl (by kernel_rfl) (by kernel_rfl) (fun _ _ _ h => h) (Or.inl ⟨by rfl, ?_⟩) ⟨z1, r1, r2, r3, r4⟩ ?_
      rotate_left
      · intro w' hSw
        go_split_ands
        try simp only [List.getElem_toArray, List.getElem_cons_zero, List.getElem_cons_succ]
        go_simp
        exact rfl
      try simp only [Act.put, List.getElem_toArray, List.getElem_cons_zero, List.getElem_cons_succ, List.setIfInBounds_toArray, List.set_cons_zero, List.set_cons_succ]
      refine mix.D_op (k := 7) rfl rfl (by kernel_rfl) (fun K' hK => ?_)
      simp only [List.getElem_toArray, List.getElem_cons_zero, List.getElem_cons_succ]
      have lN5 := kN5.lt
      have Dg : Below g wr w5 := (D5.mono (by omega)).trans (hb5.mono (by omega))
      clear hk5 hkeep hb5 q0 q1 q2 q3 q4 r1 r2 r3 r4 kN4 hO4
      go_wp2_with fail
      refine hK.out _ _ (fun h => by simp at h) ?_
      clear hK K'
      refine mix.D_done (by kernel_rfl) ?_ _
      go_wp2_with fail
      refine ⟨⟨j + 1, .slice A5 n5 c5, hlt, by go_num, F5.far hg (by simp; omega) (Dg.setCell (Nat.le_refl _) _), by simpa using kN5.put 2 (.slice A5 n5 c5), ?_⟩, by simp [intOf]; omega⟩
      rw [htk.out]
      exact OwnK.setCell hO5 (Nat.lt_succ_self _) _
    · rw [List.take_of_length_le (by omega)] at hO
      obtain ⟨A6, c6', e6, hH⟩ := OwnK.hks hO
      have hr6 : Ks wr wr.heap.size (r.map toK) A6 c6' := hH _ _ (Nat.le_refl _) (fun _ _ _ => rfl)
      have hc := refNode_any a b c d e f h false [] (r.map toK) none 0 A6 c6' wr (HEs.nil wr wr.heap.size wr.heap.size wr wr.heap.size (Nat.le_refl _) (fun _ _ _ => rfl)) hr6
      rw [ndP_of, show (([] : List E).map pe) = [] from rfl, HN.out] at hc
      have HX := vers.lay hH
      injection e6 with e61 e62 e63
      subst e61
      subst e63
      rw [← e62] at hc
      have HE62 := vers.lay e62
      clear hr6 hH hO e62
      simp only [List.length_nil] at hc
      obtain ⟨⟨⟨c0, c1, c2, c3, c4, c5, c6⟩, l1, l2, b1⟩, ⟨y0, y1, y2, y3⟩, k1⟩ := id F5
      have lk := k1.lt
      simp only [T.k, T.n, T.s] at y0 y1 y2
      by_cases hn0 : n = 0
      · have e1 : (n != 0) = false := by simp [hn0]
        have HRR2 := vers.lay (HRR.out.symm.trans (if_neg (by simpa using hn0)))
        clear HRR
        subst hn0
        go_wp2_with fail
        refine hc.mono ?_
        rintro z w5 ⟨rfl, hb5⟩
        have F6 := F5.next hb5
        have kN5 := kN.below hb5 lN
        have hz5 := hb5.size
        clear F5 kN c0 c1 c2 c3 c4 c5 c6 l1 l2 b1 y0 y1 y2 y3 k1 lk hc nb0 nb1 nb2
        obtain ⟨⟨⟨c0, c1, c2, c3, c4, c5, c6⟩, l1, l2, b1⟩, ⟨y0, y1, y2, y3⟩, k1⟩ := id F6
        have lk := k1.lt
        have n0 := kN5.cell 0
        have n1 := kN5.cell 1
        have n2 := kN5.cell 2
        simp at n0 n1 n2
        have z0 := k1.cell 0
        have z1 := k1.cell 1
        have z2 := k1.cell 2
        simp at z0 z1 z2
        have f0 := k1.frozen 0
        have f1 := k1.frozen 1
        have f2 := k1.frozen 2
        go_wp2_with fail
        refine bodyPost_ret (v := .tuple #[.agg #[.bool false, .slice none 0 0, .slice AX nX cX], .int .i64 0]) (by simp [results, Try.results20, go_sem, z0, z1, z2]) rfl ?_
        rw [HRR2.out]
        refine ⟨three_below b1 (by omega) _ _ _, [], none, 0, AX, cX, by rw [HE62.out]; rfl, rfl, HEs.nil _ _ _, HX.out.move (by omega) (by simp; omega) ?_⟩
        intro p p1 p2
        rw [three_cell _ _ _ _ _ p (by omega), hb5.cell p2]
      · have e1 : (n != 0) = true := by simpa using hn0
        have HRR2 := vers.lay (HRR.out.symm.trans (if_pos hn0))
        clear HRR hn0
        go_wp2_with fail
        refine hc.mono ?_
        rintro z w5 ⟨rfl, hb5⟩
        have F6 := F5.next hb5
        clear F5 c0 c1 c2 c3 c4 c5 c6 l1 l2 b1 y0 y1 y2 y3 k1 lk hc nb0 nb1 nb2
        obtain ⟨⟨⟨c0, c1, c2, c3, c4, c5, c6⟩, l1, l2, b1⟩, ⟨y0, y1, y2, y3⟩, k1⟩ := id F6
        have lk := k1.lt
        have z0 := k1.cell 0
        have z1 := k1.cell 1
        have z2 := k1.cell 2
        simp at z0 z1 z2
        have f0 := k1.frozen 0
        have f1 := k1.frozen 1
        have f2 := k1.frozen 2
        go_wp2_with fail
        refine bodyPost_ret (v := .tuple #[.agg #[.bool false, .slice none 0 0, .slice none 0 0], .int .i64 n]) (by simp [results, Try.results20, go_sem, z0, z1, z2]) rfl ?_
        rw [HRR2.out]
        exact NAns.bad _ (three_below b1 (by omega) _ _ _)

theorem refFrom_any (a b c d e f h : Int) (t : T) (A : Option Addr) (cap : Nat) (w : World) (hL : Lies w w.heap.size t (.slice A t.l.length cap)) :
    Calls Try.prog 20 #[.agg #[.int .i64 a, .int .i64 b, .int .i64 c, .int .i64 d, .int .i64 e, .int .i64 f, .int .i64 h], .agg #[.int .i64 t.k, .int .u64 t.n, .string t.s, .slice A t.l.length cap]] w (NAns w (fromP a b c d e f h t)) := by
  unfold fromP
  by_cases hk : ok a b c d e f h
  · rw [if_pos hk]
    by_cases hr : t.right = 0
    · rw [if_neg (by simpa using hr)]
      cases hb : nodB t with
      | true =>
        rw [if_pos rfl]
        cases hh : headB t 1 with
        | false => rw [nodB_head hh] at hb; cases hb
        | true =>
          obtain ⟨m, s, x, r, rfl, hx⟩ := headB_shape hh
          obtain ⟨b', off', A1, c1, e1, _, _, _⟩ := S_at (S_of hL).1 (j := 0) (by simp [T.l])
          cases e1
          have hb2 := hb
          rw [nodB_yes m s r hx] at hb2
          rw [nodeP_yes]
          by_cases h1 : x.n = 1
          · rw [if_pos h1] at hb2 ⊢
            exact refFrom_leaf a b c d e f h m s x r b' off' cap w hL hk hr hb h1 (List.all_eq_true.1 hb2) _ rfl _ rfl
          · rw [if_neg h1] at hb2 ⊢
            by_cases h2 : x.n = 2
            · rw [if_pos h2] at hb2
              exact refFrom_inner a b c d e f h m s x r b' off' cap w hL hk hr hb h2 (List.all_eq_true.1 hb2) _ rfl _ rfl
            · rw [if_neg h2] at hb2; cases hb2
      | false =>
        rw [if_neg (by simp)]
        exact refFrom_bad3 a b c d e f h t A cap w hL hk hr hb
    · rw [if_pos hr]
      exact refFrom_bad2 a b c d e f h t A cap w hL hk _ rfl hr
  · rw [if_neg hk]
    exact refFrom_bad1 a b c d e f h t A _ cap w hk

end Go.Proofs.Ytanfjnahdnafnaa.nodes

/- The walk of NodeFroms. -/

namespace Go.Proofs.Ytanfjnahdnafnaa.nodes
set_option linter.unusedVariables false
set_option linter.unusedSimpArgs false
open Go.RowKit Go.Proofs.Ytanfjnahdnafnaa.base Go.Proofs.Ytanfjnahdnafnaa.quotas Go.Proofs.Ytanfjnahdnafnaa.vers Go.Proofs.Ytanfjnahdnafnaa.tm Go.Proofs.Ytanfjnahdnafnaa.lies Go.Proofs.Ytanfjnahdnafnaa.copies Go.Proofs.Ytanfjnahdnafnaa.makes

/-- behind the law's beginning: the quota's box, the term's -/
def Gx (w : World) (a b c d e f h : Int) (t : T) (u : Value) (wr : World) : Prop :=
  In7 w w.heap.size a b c d e f h wr ∧ (wr.cell? ⟨w.heap.size + 1, 0, none⟩ = some (.int .i64 t.k) ∧ wr.cell? ⟨w.heap.size + 1, 1, none⟩ = some (.int .u64 t.n) ∧ wr.cell? ⟨w.heap.size + 1, 2, none⟩ = some (.string t.s) ∧ wr.cell? ⟨w.heap.size + 1, 3, none⟩ = some u) ∧ w.heap.size + 1 < wr.heap.size
theorem Gx.new (w : World) (a b c d e f h : Int) (t : T) (u : Value) : Gx w a b c d e f h t u ((w.alloc (.cells #[.int .i64 a, .int .i64 b, .int .i64 c, .int .i64 d, .int .i64 e, .int .i64 f, .int .i64 h] 23)).alloc (.cells #[.int .i64 t.k, .int .u64 t.n, .string t.s, u] 38)) := by
  have k1 := Blk.new (w.alloc (.cells #[.int .i64 a, .int .i64 b, .int .i64 c, .int .i64 d, .int .i64 e, .int .i64 f, .int .i64 h] 23)) 38 #[.int .i64 t.k, .int .u64 t.n, .string t.s, u]
  simp only [World.size_alloc] at k1
  exact ⟨(In7.new w a b c d e f h).alloc _, ⟨k1.cell 0, k1.cell 1, k1.cell 2, k1.cell 3⟩, by simp⟩
theorem Gx.next {w wr w' : World} {a b c d e f h : Int} {t : T} {u : Value} (h1 : Gx w a b c d e f h t u wr) (hb : Below wr.heap.size wr w') : Gx w a b c d e f h t u w' := by
  obtain ⟨h1, ⟨h2, h3, h5, h6⟩, h4⟩ := h1
  have hs := hb.size
  refine ⟨h1.next hb, ⟨?_, ?_, ?_, ?_⟩, by omega⟩ <;> (rw [hb.cell (by simp; omega)]; assumption)

set_option maxRecDepth 100000 in
set_option maxHeartbeats 1000000 in
theorem law_froms (a b c d e f h : Int) (t : T) (u : Value) (w : World) (hL : Lies w w.heap.size t u) :
    Calls Try.prog 5 #[.agg #[.int .i64 a, .int .i64 b, .int .i64 c, .int .i64 d, .int .i64 e, .int .i64 f, .int .i64 h], T.val t u] w fun x w' => x = .returned (.bool true) ∧ Below w.heap.size w w' := by
  obtain ⟨A, cap, xs, rfl, _⟩ := hL.open_
  have G0 := Gx.new w a b c d e f h t (.slice A t.l.length cap)
  have h1 := fun wr (hb : Below w.heap.size w wr) => from_any a b c d e f h t A cap wr ((Lies.below hL hb).now hb.size)
  have h2 := fun wr (hb : Below w.heap.size w wr) => refFrom_any a b c d e f h t A cap wr ((Lies.below hL hb).now hb.size)
  generalize fromP a b c d e f h t = r at h1 h2
  obtain ⟨⟨lf, ps, ks⟩, er⟩ := r
  clear hL
  unfold T.val
  generalize t.l.length = nl at *
  go_enter Try.func5, Try.ntmps5
  go_wp2_with fail
  refine (h1 _ G0.1.2.2.2).mono ?_
  rintro x w1 ⟨hb1, es1, A1, c1, Q1, m1, rfl, hpe1, hE1, hK1⟩
  simp only at hpe1 hK1 ⊢
  generalize hn1 : es1.length = n1
  generalize hnk : ks.length = nk
  have HN1 := vers.lay hn1
  have HNK := vers.lay hnk
  clear hn1 hnk
  have G1 := G0.next hb1
  have D1 : Below w1.heap.size w1 (w1.alloc (.cells #[.bool lf, .slice A1 n1 c1, .slice Q1 nk m1] 27)) := (Below.refl _ _).alloc (Nat.le_refl _) _
  have G2 := G1.next D1
  have X1 := Nb.new w1 lf (.slice A1 n1 c1) (.slice Q1 nk m1)
  clear G0 hb1 h1
  obtain ⟨⟨⟨q0, q1, q2, q3, q4, q5, q6⟩, l1, l2, b1⟩, ⟨y0, y1, y2, y3⟩, l3⟩ := id G1
  have l4 : w.heap.size < w1.heap.size := by omega
  go_wp2_with fail
  clear q0 q1 q2 q3 q4 q5 q6 l1 l2 b1 y0 y1 y2 y3 l3 l4 G1
  refine (h2 _ G2.1.2.2.2).mono ?_
  rintro x w2 ⟨hb2, es2, A2, c2, Q2, m2, rfl, hpe2, hE2, hK2⟩
  simp only at hpe2 hK2 ⊢
  generalize hn2 : es2.length = n2
  have HN2 := vers.lay hn2
  clear hn2 h2
  have hnk' := HNK.out
  rw [hnk']
  clear hnk'
  have D2 : Below w2.heap.size w2 (w2.alloc (.cells #[.bool lf, .slice A2 n2 c2, .slice Q2 nk m2] 27)) := (Below.refl _ _).alloc (Nat.le_refl _) _
  have X2 := Nb.new w2 lf (.slice A2 n2 c2) (.slice Q2 nk m2)
  have D12 : Below w1.heap.size w1 (w2.alloc (.cells #[.bool lf, .slice A2 n2 c2, .slice Q2 nk m2] 27)) := (D1.trans (hb2.mono D1.size)).trans (D2.mono (Nat.le_trans D1.size hb2.size))
  have G3 := (G2.next hb2).next D2
  have X3 := (X1.next hb2).next D2
  have bw := G3.1.2.2.2
  have hl := likeN_any lf lf es1 es2 ks ks A1 A2 c1 c2 Q1 Q2 m1 m2 (w2.alloc (.cells #[.bool lf, .slice A2 n2 c2, .slice Q2 nk m2] 27)) (hE1 _ _ D12.size (Frame.of_below D12)) (hE2 _ _ D2.size (Frame.of_below D2)) (hK1 _ _ D12.size (Frame.of_below D12)) (hK2 _ _ D2.size (Frame.of_below D2))
  rw [decide_eq_true (show lf = lf ∧ es1.map pe = es2.map pe ∧ ks = ks from ⟨rfl, by rw [hpe1, hpe2], rfl⟩), HN1.out, HN2.out, HNK.out] at hl
  have d1 : (er == er) = true := by simp
  clear G2 G3 X1 hE1 hE2 hK1 hK2 hpe1 hpe2 D1 D2 D12 hb2
  obtain ⟨⟨a0, a1, a2⟩, a3⟩ := X3
  obtain ⟨⟨z0, z1, z2⟩, z3⟩ := X2
  go_wp2_with fail
  refine hl.mono ?_
  rintro x w3 ⟨rfl, hb3⟩
  go_wp2_with fail
  go_ret
  exact ⟨rfl, bw.trans (hb3.mono bw.size)⟩
end Go.Proofs.Ytanfjnahdnafnaa.nodes
