/- What letheref06's isEntry, formed and toKid answer. -/
import Derived.Test.YtanfjnahdnafnaaGreatNdU


namespace Go.Proofs.YtanfjnahdnafnaaGreat.nodes
set_option linter.unusedVariables false
set_option linter.unusedSimpArgs false
open Go.RowKit Go.Proofs.YtanfjnahdnafnaaGreat.base Go.Proofs.YtanfjnahdnafnaaGreat.quotas Go.Proofs.YtanfjnahdnafnaaGreat.vers Go.Proofs.YtanfjnahdnafnaaGreat.tm Go.Proofs.YtanfjnahdnafnaaGreat.lies Go.Proofs.YtanfjnahdnafnaaGreat.copies Go.Proofs.YtanfjnahdnafnaaGreat.makes

/-- a box that holds a term, whose list begins with x -/
def Xb (w : World) (b off : Nat) (x : T) (ux : Value) (m : Int) (s : ByteArray) (u : Value) (wr : World) : Prop := ((wr.cell? ⟨b, off, none⟩ = some (.int .i64 x.k) ∧ wr.cell? ⟨b, off + 1, none⟩ = some (.int .u64 x.n) ∧ wr.cell? ⟨b, off + 2, none⟩ = some (.string x.s) ∧ wr.cell? ⟨b, off + 3, none⟩ = some ux) ∧
  (wr.cell? ⟨w.heap.size, 0, none⟩ = some (.int .i64 5) ∧ wr.cell? ⟨w.heap.size, 1, none⟩ = some (.int .u64 m) ∧ wr.cell? ⟨w.heap.size, 2, none⟩ = some (.string s) ∧ wr.cell? ⟨w.heap.size, 3, none⟩ = some u)) ∧ Below w.heap.size w wr ∧ b < w.heap.size ∧ w.heap.size < wr.heap.size
theorem Xb.new {w : World} {b off : Nat} {x : T} {ux : Value} (m : Int) (s : ByteArray) (u : Value) (h : P4 w b off x ux) (hb : b < w.heap.size) : Xb w b off x ux m s u (w.alloc (.cells #[.int .i64 5, .int .u64 m, .string s, u] 38)) := by
  have b0 : Below w.heap.size w (w.alloc (.cells #[.int .i64 5, .int .u64 m, .string s, u] 38)) := (Below.refl _ _).alloc (Nat.le_refl _) _
  have k := Blk.new w 38 #[.int .i64 5, .int .u64 m, .string s, u]
  exact ⟨⟨h.next b0 hb, k.cell 0, k.cell 1, k.cell 2, k.cell 3⟩, b0, hb, by simp⟩
theorem Xb.next {w wr w' : World} {b off : Nat} {x : T} {ux : Value} {m : Int} {s : ByteArray} {u : Value} (h : Xb w b off x ux m s u wr) {B : Nat} (hB : w.heap.size < B) (hb : Below B wr w') (hs : wr.heap.size ≤ w'.heap.size) : Xb w b off x ux m s u w' := by
  obtain ⟨⟨⟨a0, a1, a2, a3⟩, y0, y1, y2, y3⟩, h3, h4, h5⟩ := h
  refine ⟨⟨⟨?_, ?_, ?_, ?_⟩, ?_, ?_, ?_, ?_⟩, h3.trans (hb.mono (Nat.le_of_lt hB)), h4, by omega⟩ <;> (rw [hb.cell (by simp; omega)]; assumption)
theorem Xb.next' {w wr w' : World} {b off : Nat} {x : T} {ux : Value} {m : Int} {s : ByteArray} {u : Value} (h : Xb w b off x ux m s u wr) (hb : Below wr.heap.size wr w') : Xb w b off x ux m s u w' := h.next h.2.2.2 hb hb.size

set_option maxRecDepth 100000 in
set_option maxHeartbeats 1000000 in
theorem isEntry_no1 (t : T) (u : Value) (w : World) (hk : ¬ t.k = 5) :
    Calls Tryz.prog 76 #[.agg #[.int .i64 t.k, .int .u64 t.n, .string t.s, u]] w fun e w' => e = .returned (.bool false) ∧ Below w.heap.size w w' := by
  have d1 : (t.k != 5) = true := by simpa using hk
  clear hk
  go_enter Tryz.func76, Tryz.ntmps76
  go_wp2_with fail
  go_ret
  exact ⟨rfl, (Below.refl _ _).alloc (Nat.le_refl _) _⟩

set_option maxRecDepth 100000 in
set_option maxHeartbeats 1000000 in
theorem isEntry_no2 (n : Int) (s : ByteArray) (A : Option Addr) (c : Nat) (w : World)  :
    Calls Tryz.prog 76 #[.agg #[.int .i64 5, .int .u64 n, .string s, .slice A 0 c]] w fun e w' => e = .returned (.bool false) ∧ Below w.heap.size w w' := by
  go_enter Tryz.func76, Tryz.ntmps76
  go_wp2_with fail
  go_ret
  exact ⟨rfl, (Below.refl _ _).alloc (Nat.le_refl _) _⟩

set_option maxRecDepth 100000 in
set_option maxHeartbeats 1000000 in
theorem isEntry_no3 (n : Int) (s : ByteArray) (x : Int) (b off nl c : Nat) (w : World) (hx : w.cell? ⟨b, off, none⟩ = some (.int .i64 x)) (hb : b < w.heap.size) (hn : nl + 1 ≤ 140737488355328) (hne : ¬ x = 2) :
    Calls Tryz.prog 76 #[.agg #[.int .i64 5, .int .u64 n, .string s, .slice (some ⟨b, off, none⟩) (nl + 1) c]] w fun e w' => e = .returned (.bool false) ∧ Below w.heap.size w w' := by
  have d1 : (x != 2) = true := by simpa using hne
  have d2 : ((nl : Int) + 1 == 0) = false := by simp; omega
  have d3 : (0 : Int) < (nl : Int) + 1 := by omega
  clear hne
  go_enter Tryz.func76, Tryz.ntmps76
  go_wp2_with fail
  go_ret
  exact ⟨rfl, (Below.refl _ _).alloc (Nat.le_refl _) _⟩

set_option maxRecDepth 100000 in
set_option maxHeartbeats 1000000 in
theorem refFormed_no1 (t : T) (u : Value) (w : World) (hk : ¬ t.k = 5) :
    Calls Tryz.prog 37 #[.agg #[.int .i64 t.k, .int .u64 t.n, .string t.s, u]] w fun e w' => e = .returned (.bool false) ∧ Below w.heap.size w w' := by
  have d1 : (t.k != 5) = true := by simpa using hk
  clear hk
  go_enter Tryz.func37, Tryz.ntmps37
  go_wp2_with fail
  go_ret
  exact ⟨rfl, (Below.refl _ _).alloc (Nat.le_refl _) _⟩

set_option maxRecDepth 100000 in
set_option maxHeartbeats 1000000 in
theorem refFormed_no2 (n : Int) (s : ByteArray) (A : Option Addr) (c : Nat) (w : World)  :
    Calls Tryz.prog 37 #[.agg #[.int .i64 5, .int .u64 n, .string s, .slice A 0 c]] w fun e w' => e = .returned (.bool false) ∧ Below w.heap.size w w' := by
  go_enter Tryz.func37, Tryz.ntmps37
  go_wp2_with fail
  go_ret
  exact ⟨rfl, (Below.refl _ _).alloc (Nat.le_refl _) _⟩

set_option maxRecDepth 100000 in
set_option maxHeartbeats 1000000 in
theorem refFormed_no3 (n : Int) (s : ByteArray) (x : Int) (b off nl c : Nat) (w : World) (hx : w.cell? ⟨b, off, none⟩ = some (.int .i64 x)) (hb : b < w.heap.size) (hn : nl + 1 ≤ 140737488355328) (hne : ¬ x = 1) :
    Calls Tryz.prog 37 #[.agg #[.int .i64 5, .int .u64 n, .string s, .slice (some ⟨b, off, none⟩) (nl + 1) c]] w fun e w' => e = .returned (.bool false) ∧ Below w.heap.size w w' := by
  have d1 : (x != 1) = true := by simpa using hne
  have d2 : ((nl : Int) + 1 == 0) = false := by simp; omega
  have d3 : (0 : Int) < (nl : Int) + 1 := by omega
  clear hne
  go_enter Tryz.func37, Tryz.ntmps37
  go_wp2_with fail
  go_ret
  exact ⟨rfl, (Below.refl _ _).alloc (Nat.le_refl _) _⟩

set_option maxRecDepth 100000 in
set_option maxHeartbeats 1000000 in
theorem refFormed_no4 (n : Int) (s : ByteArray) (x : Int) (b off nl c : Nat) (w : World) (hx : w.cell? ⟨b, off, none⟩ = some (.int .i64 1)) (hx1 : w.cell? ⟨b, off + 1, none⟩ = some (.int .u64 x)) (hb : b < w.heap.size) (hn : nl + 1 ≤ 140737488355328) (hne : x < 1) :
    Calls Tryz.prog 37 #[.agg #[.int .i64 5, .int .u64 n, .string s, .slice (some ⟨b, off, none⟩) (nl + 1) c]] w fun e w' => e = .returned (.bool false) ∧ Below w.heap.size w w' := by
  have d1 : decide (x < 1) = true := decide_eq_true hne
  have d2 : ((nl : Int) + 1 == 0) = false := by simp; omega
  have d3 : (0 : Int) < (nl : Int) + 1 := by omega
  clear hne
  go_enter Tryz.func37, Tryz.ntmps37
  go_wp2_with fail
  go_ret
  exact ⟨rfl, (Below.refl _ _).alloc (Nat.le_refl _) _⟩

set_option maxRecDepth 100000 in
set_option maxHeartbeats 1000000 in
theorem refFormed_no5 (n : Int) (s : ByteArray) (x : Int) (b off nl c : Nat) (w : World) (hx : w.cell? ⟨b, off, none⟩ = some (.int .i64 1)) (hx1 : w.cell? ⟨b, off + 1, none⟩ = some (.int .u64 x)) (hb : b < w.heap.size) (hn : nl + 1 ≤ 140737488355328) (hne0 : ¬ x < 1) (hne : 2 < x) :
    Calls Tryz.prog 37 #[.agg #[.int .i64 5, .int .u64 n, .string s, .slice (some ⟨b, off, none⟩) (nl + 1) c]] w fun e w' => e = .returned (.bool false) ∧ Below w.heap.size w w' := by
  have d0 : decide (x < 1) = false := decide_eq_false hne0
  have d1 : decide (2 < x) = true := decide_eq_true hne
  have d2 : ((nl : Int) + 1 == 0) = false := by simp; omega
  have d3 : (0 : Int) < (nl : Int) + 1 := by omega
  clear hne hne0
  go_enter Tryz.func37, Tryz.ntmps37
  go_wp2_with fail
  go_ret
  exact ⟨rfl, (Below.refl _ _).alloc (Nat.le_refl _) _⟩

set_option maxRecDepth 100000 in
set_option maxHeartbeats 1000000 in
theorem isEntry_yes (m : Int) (s : ByteArray) (x : T) (r : List T) (b off c : Nat) (w : World) (h : LiesS w w.heap.size (x :: r) (some ⟨b, off, none⟩) c) (hk : x.k = 2)  :
    Calls Tryz.prog 76 #[.agg #[.int .i64 5, .int .u64 m, .string s, .slice (some ⟨b, off, none⟩) (r.length + 1) c]] w fun e w' => e = .returned (.bool (r.all verB)) ∧ Below w.heap.size w w' := by
  obtain ⟨A', c', hrun, hS⟩ := run_tail h
  obtain ⟨b', off', A1, c1, e, hb, hl0, p0⟩ := S_at h (j := 0) (by simp)
  cases e
  clear hl0
  simp only [Nat.zero_mul, Nat.add_zero, List.getElem_cons_zero] at p0
  generalize Value.slice A1 x.l.length c1 = ux at p0
  have hlen : r.length + 1 ≤ 140737488355328 := by obtain ⟨_, _, h2, _⟩ := h; simp at h2; omega
  have dk : (x.k != 2) = false := by simp [hk]
  have d2 : ((r.length : Int) + 1 == 0) = false := by simp; omega
  have d3 : (0 : Int) < (r.length : Int) + 1 := by omega
  have X0 := Xb.new m s (.slice (some ⟨b, off, none⟩) (r.length + 1) c) p0 hb
  clear h hk p0
  obtain ⟨⟨⟨a0, a1, a2, a3⟩, y0, y1, y2, y3⟩, b0, _, lt0⟩ := id X0
  go_enter Tryz.func76, Tryz.ntmps76
  go_wp2_with fail
  go_loopw [26] (fun i wr => ∃ j : Nat, j ≤ r.length ∧ i = .int .i64 j ∧ Hid ((r.take j).all verB = true) ∧ Xb w b off x ux m s (.slice (some ⟨b, off, none⟩) (r.length + 1) c) wr) (fun i _ => r.length - (intOf i).toNat)
  case atStart => exact ⟨0, Nat.zero_le _, rfl, vers.lay rfl, X0⟩
  case round =>
    clear X0 a0 a1 a2 a3 y0 y1 y2 y3 b0 lt0
    obtain ⟨j, hj, rfl, hV, X1⟩ := hrel
    obtain ⟨⟨⟨a0, a1, a2, a3⟩, y0, y1, y2, y3⟩, bw, _, lt0⟩ := id X1
    by_cases hlt : j < r.length
    · obtain ⟨b2, off2, A2, c2, rfl, hb2, hL, p0, p1, p2, p3⟩ := S_at (S_keep hS bw) hlt
      have hl56 : r[j].l.length ≤ 140737488355328 := by obtain ⟨_, _, h2, _⟩ := (S_of hL).1; omega
      have D1 : Below wr.heap.size wr (wr.alloc (.cells #[.int .i64 r[j].k, .int .u64 r[j].n, .string r[j].s, .slice A2 r[j].l.length c2] 38)) := (Below.refl _ _).alloc (Nat.le_refl _) _
      have hS1 : LiesS (wr.alloc (.cells #[.int .i64 r[j].k, .int .u64 r[j].n, .string r[j].s, .slice A2 r[j].l.length c2] 38)) (wr.alloc (.cells #[.int .i64 r[j].k, .int .u64 r[j].n, .string r[j].s, .slice A2 r[j].l.length c2] 38)).heap.size r[j].l A2 c2 := S_more (S_keep (S_more (S_of hL).1 bw.size) D1) D1.size
      have hc := version_any r[j] A2 c2 _ hS1
      have X2 := X1.next' D1
      clear hS1 hL
      have j0 : (0 : Int) ≤ (j : Int) := by omega
      have hbw : b < wr.heap.size := Nat.lt_of_lt_of_le hb bw.size
      cases hbb : verB r[j] with
      | false =>
        have hres : Hid (r.all verB = false) := vers.lay (all_no hlt hbb)
        rw [hbb] at hc
        clear hbb
        generalize r[j].l.length = nl at *
        go_wp2_with fail
        refine hc.mono ?_
        rintro e w3 ⟨rfl, hb3⟩
        have X3 := X2.next' hb3
        clear X1 X2 a0 a1 a2 a3 y0 y1 y2 y3 bw lt0 hb3 hc
        obtain ⟨⟨⟨a0, a1, a2, a3⟩, y0, y1, y2, y3⟩, bw, _, lt0⟩ := id X3
        go_wp2_with fail
        go_ret
        exact ⟨vers.ret_bool hres.out.symm, bw⟩
      | true =>
        have hall : Hid ((r.take (j + 1)).all verB = true) := vers.lay (all_take hlt hV.out hbb)
        rw [hbb] at hc
        clear hbb
        generalize r[j].l.length = nl at *
        go_wp2_with fail
        refine hc.mono ?_
        rintro e w3 ⟨rfl, hb3⟩
        have X3 := X2.next' hb3
        clear X1 X2 a0 a1 a2 a3 y0 y1 y2 y3 bw lt0 hb3 hc
        obtain ⟨⟨⟨a0, a1, a2, a3⟩, y0, y1, y2, y3⟩, bw, _, lt0⟩ := id X3
        go_wp2_with fail
        exact ⟨⟨j + 1, hlt, by go_num, hall, X3⟩, by simp [intOf]; omega⟩
    · have hall : Hid (r.all verB = true) := vers.lay (by have h1 := hV.out; rwa [List.take_of_length_le (by omega)] at h1)
      go_wp2_with fail
      go_ret
      exact ⟨vers.ret_bool hall.out.symm, bw⟩

theorem isEntry_any (t : T) (A : Option Addr) (c : Nat) (w : World) (h : LiesS w w.heap.size t.l A c) :
    Calls Tryz.prog 76 #[.agg #[.int .i64 t.k, .int .u64 t.n, .string t.s, .slice A t.l.length c]] w fun e w' => e = .returned (.bool (entB t)) ∧ Below w.heap.size w w' := by
  cases hh : headB t 2 with
  | false =>
    rw [entB_head hh]
    by_cases h5 : t.k = 5
    · obtain ⟨k5, m, s, l⟩ := t
      cases (show k5 = 5 from h5)
      cases l with
      | nil => exact isEntry_no2 m s A c w
      | cons x r =>
        obtain ⟨b', off', A1, c1, e, hb, _, p0⟩ := S_at h (j := 0) (by simp [T.l])
        cases e
        have hne : ¬ x.k = 2 := by
          have h2 : headB (T.mk 5 m s (x :: r)) 2 = decide (x.k = 2) := by
            show (decide ((5 : Int) = 5) && decide (x.k = 2)) = _
            simp
          rw [h2] at hh
          exact of_decide_eq_false hh
        have p00 := p0.1
        simp only [Nat.zero_mul, Nat.add_zero] at p00
        exact isEntry_no3 m s x.k b' off' r.length c w p00 hb (by obtain ⟨_, _, h2, _⟩ := h; simp [T.l] at h2; omega) hne
    · exact isEntry_no1 t _ w h5
  | true =>
    obtain ⟨m, s, x, r, rfl, hk⟩ := headB_shape hh
    obtain ⟨b', off', A1, c1, e, hb, _, _⟩ := S_at h (j := 0) (by simp [T.l])
    cases e
    rw [entB_yes m s r hk]
    exact isEntry_yes m s x r b' off' c w h hk

set_option maxRecDepth 100000 in
set_option maxHeartbeats 1000000 in
theorem refFormed_leaf (m : Int) (s : ByteArray) (x : T) (r : List T) (b off c : Nat) (w : World) (h : LiesS w w.heap.size (x :: r) (some ⟨b, off, none⟩) c) (hk : x.k = 1) (hn : x.n = 1) :
    Calls Tryz.prog 37 #[.agg #[.int .i64 5, .int .u64 m, .string s, .slice (some ⟨b, off, none⟩) (r.length + 1) c]] w fun e w' => e = .returned (.bool (r.all entB)) ∧ Below w.heap.size w w' := by
  obtain ⟨A', c', hrun, hS⟩ := run_tail h
  obtain ⟨b', off', A1, c1, e, hb, hl0, p0⟩ := S_at h (j := 0) (by simp)
  cases e
  clear hl0
  simp only [Nat.zero_mul, Nat.add_zero, List.getElem_cons_zero] at p0
  generalize Value.slice A1 x.l.length c1 = ux at p0
  have hlen : r.length + 1 ≤ 140737488355328 := by obtain ⟨_, _, h2, _⟩ := h; simp at h2; omega
  have dk : (x.k != 1) = false := by simp [hk]
  have e1 : (x.n == 1) = true := by simp [hn]
  have e2 : decide (x.n < 1) = false := decide_eq_false (by omega)
  have e3 : decide (2 < x.n) = false := decide_eq_false (by omega)
  have e4 : (x.n == 2) = false := by simp [hn]
  clear hn
  have d2 : ((r.length : Int) + 1 == 0) = false := by simp; omega
  have d3 : (0 : Int) < (r.length : Int) + 1 := by omega
  have X0 := Xb.new m s (.slice (some ⟨b, off, none⟩) (r.length + 1) c) p0 hb
  clear h hk p0
  obtain ⟨⟨⟨a0, a1, a2, a3⟩, y0, y1, y2, y3⟩, b0, _, lt0⟩ := id X0
  go_enter Tryz.func37, Tryz.ntmps37
  go_wp2_with fail
  go_loopw [42] (fun i wr => ∃ j : Nat, j ≤ r.length ∧ i = .int .i64 j ∧ Hid ((r.take j).all entB = true) ∧ Xb w b off x ux m s (.slice (some ⟨b, off, none⟩) (r.length + 1) c) wr) (fun i _ => r.length - (intOf i).toNat)
  case atStart => exact ⟨0, Nat.zero_le _, rfl, vers.lay rfl, X0⟩
  case round =>
    clear X0 a0 a1 a2 a3 y0 y1 y2 y3 b0 lt0
    obtain ⟨j, hj, rfl, hV, X1⟩ := hrel
    obtain ⟨⟨⟨a0, a1, a2, a3⟩, y0, y1, y2, y3⟩, bw, _, lt0⟩ := id X1
    by_cases hlt : j < r.length
    · obtain ⟨b2, off2, A2, c2, rfl, hb2, hL, p0, p1, p2, p3⟩ := S_at (S_keep hS bw) hlt
      have hl56 : r[j].l.length ≤ 140737488355328 := by obtain ⟨_, _, h2, _⟩ := (S_of hL).1; omega
      have D1 : Below wr.heap.size wr (wr.alloc (.cells #[.int .i64 r[j].k, .int .u64 r[j].n, .string r[j].s, .slice A2 r[j].l.length c2] 38)) := (Below.refl _ _).alloc (Nat.le_refl _) _
      have hS1 : LiesS (wr.alloc (.cells #[.int .i64 r[j].k, .int .u64 r[j].n, .string r[j].s, .slice A2 r[j].l.length c2] 38)) (wr.alloc (.cells #[.int .i64 r[j].k, .int .u64 r[j].n, .string r[j].s, .slice A2 r[j].l.length c2] 38)).heap.size r[j].l A2 c2 := S_more (S_keep (S_more (S_of hL).1 bw.size) D1) D1.size
      have hc := isEntry_any r[j] A2 c2 _ hS1
      have X2 := X1.next' D1
      clear hS1 hL
      have j0 : (0 : Int) ≤ (j : Int) := by omega
      have hbw : b < wr.heap.size := Nat.lt_of_lt_of_le hb bw.size
      cases hbb : entB r[j] with
      | false =>
        have hres : Hid (r.all entB = false) := vers.lay (all_no hlt hbb)
        rw [hbb] at hc
        clear hbb
        generalize r[j].l.length = nl at *
        go_wp2_with fail
        refine hc.mono ?_
        rintro e w3 ⟨rfl, hb3⟩
        have X3 := X2.next' hb3
        clear X1 X2 a0 a1 a2 a3 y0 y1 y2 y3 bw lt0 hb3 hc
        obtain ⟨⟨⟨a0, a1, a2, a3⟩, y0, y1, y2, y3⟩, bw, _, lt0⟩ := id X3
        go_wp2_with fail
        go_ret
        exact ⟨vers.ret_bool hres.out.symm, bw⟩
      | true =>
        have hall : Hid ((r.take (j + 1)).all entB = true) := vers.lay (all_take hlt hV.out hbb)
        rw [hbb] at hc
        clear hbb
        generalize r[j].l.length = nl at *
        go_wp2_with fail
        refine hc.mono ?_
        rintro e w3 ⟨rfl, hb3⟩
        have X3 := X2.next' hb3
        clear X1 X2 a0 a1 a2 a3 y0 y1 y2 y3 bw lt0 hb3 hc
        obtain ⟨⟨⟨a0, a1, a2, a3⟩, y0, y1, y2, y3⟩, bw, _, lt0⟩ := id X3
        go_wp2_with fail
        exact ⟨⟨j + 1, hlt, by go_num, hall, X3⟩, by simp [intOf]; omega⟩
    · have hall : Hid (r.all entB = true) := vers.lay (by have h1 := hV.out; rwa [List.take_of_length_le (by omega)] at h1)
      go_wp2_with fail
      go_ret
      exact ⟨vers.ret_bool hall.out.symm, bw⟩

set_option maxRecDepth 100000 in
set_option maxHeartbeats 1000000 in
theorem refFormed_inner (m : Int) (s : ByteArray) (x : T) (r : List T) (b off c : Nat) (w : World) (h : LiesS w w.heap.size (x :: r) (some ⟨b, off, none⟩) c) (hk : x.k = 1) (hn : x.n = 2) :
    Calls Tryz.prog 37 #[.agg #[.int .i64 5, .int .u64 m, .string s, .slice (some ⟨b, off, none⟩) (r.length + 1) c]] w fun e w' => e = .returned (.bool (r.all kidB)) ∧ Below w.heap.size w w' := by
  obtain ⟨A', c', hrun, hS⟩ := run_tail h
  obtain ⟨b', off', A1, c1, e, hb, hl0, p0⟩ := S_at h (j := 0) (by simp)
  cases e
  clear hl0
  simp only [Nat.zero_mul, Nat.add_zero, List.getElem_cons_zero] at p0
  generalize Value.slice A1 x.l.length c1 = ux at p0
  have hlen : r.length + 1 ≤ 140737488355328 := by obtain ⟨_, _, h2, _⟩ := h; simp at h2; omega
  have dk : (x.k != 1) = false := by simp [hk]
  have e1 : (x.n == 1) = false := by simp [hn]
  have e2 : decide (x.n < 1) = false := decide_eq_false (by omega)
  have e3 : decide (2 < x.n) = false := decide_eq_false (by omega)
  have e4 : (x.n == 2) = true := by simp [hn]
  clear hn
  have d2 : ((r.length : Int) + 1 == 0) = false := by simp; omega
  have d3 : (0 : Int) < (r.length : Int) + 1 := by omega
  have X0 := Xb.new m s (.slice (some ⟨b, off, none⟩) (r.length + 1) c) p0 hb
  clear h hk p0
  obtain ⟨⟨⟨a0, a1, a2, a3⟩, y0, y1, y2, y3⟩, b0, _, lt0⟩ := id X0
  go_enter Tryz.func37, Tryz.ntmps37
  go_wp2_with fail
  go_loopw [42] (fun i wr => ∃ j : Nat, j ≤ r.length ∧ i = .int .i64 j ∧ Hid ((r.take j).all kidB = true) ∧ Xb w b off x ux m s (.slice (some ⟨b, off, none⟩) (r.length + 1) c) wr) (fun i _ => r.length - (intOf i).toNat)
  case atStart => exact ⟨0, Nat.zero_le _, rfl, vers.lay rfl, X0⟩
  case round =>
    clear X0 a0 a1 a2 a3 y0 y1 y2 y3 b0 lt0
    obtain ⟨j, hj, rfl, hV, X1⟩ := hrel
    obtain ⟨⟨⟨a0, a1, a2, a3⟩, y0, y1, y2, y3⟩, bw, _, lt0⟩ := id X1
    by_cases hlt : j < r.length
    · obtain ⟨b2, off2, A2, c2, rfl, hb2, hL, p0, p1, p2, p3⟩ := S_at (S_keep hS bw) hlt
      have hl56 : r[j].l.length ≤ 140737488355328 := by obtain ⟨_, _, h2, _⟩ := (S_of hL).1; omega
      have D1 : Below wr.heap.size wr (wr.alloc (.cells #[.int .i64 r[j].k, .int .u64 r[j].n, .string r[j].s, .slice A2 r[j].l.length c2] 38)) := (Below.refl _ _).alloc (Nat.le_refl _) _
      have hS1 : LiesS (wr.alloc (.cells #[.int .i64 r[j].k, .int .u64 r[j].n, .string r[j].s, .slice A2 r[j].l.length c2] 38)) (wr.alloc (.cells #[.int .i64 r[j].k, .int .u64 r[j].n, .string r[j].s, .slice A2 r[j].l.length c2] 38)).heap.size r[j].l A2 c2 := S_more (S_keep (S_more (S_of hL).1 bw.size) D1) D1.size
      have hc := isKid_any r[j] A2 c2 _ hS1
      have X2 := X1.next' D1
      clear hS1 hL
      have j0 : (0 : Int) ≤ (j : Int) := by omega
      have hbw : b < wr.heap.size := Nat.lt_of_lt_of_le hb bw.size
      cases hbb : kidB r[j] with
      | false =>
        have hres : Hid (r.all kidB = false) := vers.lay (all_no hlt hbb)
        rw [hbb] at hc
        clear hbb
        generalize r[j].l.length = nl at *
        go_wp2_with fail
        refine hc.mono ?_
        rintro e w3 ⟨rfl, hb3⟩
        have X3 := X2.next' hb3
        clear X1 X2 a0 a1 a2 a3 y0 y1 y2 y3 bw lt0 hb3 hc
        obtain ⟨⟨⟨a0, a1, a2, a3⟩, y0, y1, y2, y3⟩, bw, _, lt0⟩ := id X3
        go_wp2_with fail
        go_ret
        exact ⟨vers.ret_bool hres.out.symm, bw⟩
      | true =>
        have hall : Hid ((r.take (j + 1)).all kidB = true) := vers.lay (all_take hlt hV.out hbb)
        rw [hbb] at hc
        clear hbb
        generalize r[j].l.length = nl at *
        go_wp2_with fail
        refine hc.mono ?_
        rintro e w3 ⟨rfl, hb3⟩
        have X3 := X2.next' hb3
        clear X1 X2 a0 a1 a2 a3 y0 y1 y2 y3 bw lt0 hb3 hc
        obtain ⟨⟨⟨a0, a1, a2, a3⟩, y0, y1, y2, y3⟩, bw, _, lt0⟩ := id X3
        go_wp2_with fail
        exact ⟨⟨j + 1, hlt, by go_num, hall, X3⟩, by simp [intOf]; omega⟩
    · have hall : Hid (r.all kidB = true) := vers.lay (by have h1 := hV.out; rwa [List.take_of_length_le (by omega)] at h1)
      go_wp2_with fail
      go_ret
      exact ⟨vers.ret_bool hall.out.symm, bw⟩

theorem refFormed_any (t : T) (A : Option Addr) (c : Nat) (w : World) (h : LiesS w w.heap.size t.l A c) :
    Calls Tryz.prog 37 #[.agg #[.int .i64 t.k, .int .u64 t.n, .string t.s, .slice A t.l.length c]] w fun e w' => e = .returned (.bool (nodB t)) ∧ Below w.heap.size w w' := by
  cases hh : headB t 1 with
  | false =>
    rw [nodB_head hh]
    by_cases h5 : t.k = 5
    · obtain ⟨k5, m, s, l⟩ := t
      cases (show k5 = 5 from h5)
      cases l with
      | nil => exact refFormed_no2 m s A c w
      | cons x r =>
        obtain ⟨b', off', A1, c1, e, hb, _, p0⟩ := S_at h (j := 0) (by simp [T.l])
        cases e
        have hne : ¬ x.k = 1 := by
          have h2 : headB (T.mk 5 m s (x :: r)) 1 = decide (x.k = 1) := by
            show (decide ((5 : Int) = 5) && decide (x.k = 1)) = _
            simp
          rw [h2] at hh
          exact of_decide_eq_false hh
        have p00 := p0.1
        simp only [Nat.zero_mul, Nat.add_zero] at p00
        exact refFormed_no3 m s x.k b' off' r.length c w p00 hb (by obtain ⟨_, _, h2, _⟩ := h; simp [T.l] at h2; omega) hne
    · exact refFormed_no1 t _ w h5
  | true =>
    obtain ⟨m, s, x, r, rfl, hk⟩ := headB_shape hh
    obtain ⟨b', off', A1, c1, e, hb, _, p0⟩ := S_at h (j := 0) (by simp [T.l])
    cases e
    have p00 := p0.1
    have p01 := p0.2.1
    simp only [Nat.zero_mul, Nat.add_zero] at p00 p01
    have hlen : r.length + 1 ≤ 140737488355328 := by obtain ⟨_, _, h2, _⟩ := h; simp [T.l] at h2; omega
    rw [nodB_yes m s r hk]
    by_cases h1 : x.n = 1
    · rw [if_pos h1]
      exact refFormed_leaf m s x r b' off' c w h hk h1
    · rw [if_neg h1]
      by_cases h2 : x.n = 2
      · rw [if_pos h2]
        exact refFormed_inner m s x r b' off' c w h hk h2
      · rw [if_neg h2]
        have p002 : w.cell? ⟨b', off', none⟩ = some (.int .i64 1) := by rw [← hk]; exact p00
        by_cases h3 : x.n < 1
        · exact refFormed_no4 m s x.n b' off' r.length c w p002 p01 hb hlen h3
        · exact refFormed_no5 m s x.n b' off' r.length c w p002 p01 hb hlen h3 (by omega)

end Go.Proofs.YtanfjnahdnafnaaGreat.nodes
