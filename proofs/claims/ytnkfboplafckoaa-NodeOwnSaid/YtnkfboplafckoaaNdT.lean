/- What package node's own headed, each and secretOf answer. -/
import Derived.Test.YtnkfboplafckoaaNdS


namespace Go.Proofs.Ytnkfboplafckoaa.nodes
set_option linter.unusedVariables false
set_option linter.unusedSimpArgs false
open Go.RowKit Go.Proofs.Ytnkfboplafckoaa.base Go.Proofs.Ytnkfboplafckoaa.quotas Go.Proofs.Ytnkfboplafckoaa.vers Go.Proofs.Ytnkfboplafckoaa.tm Go.Proofs.Ytnkfboplafckoaa.lies Go.Proofs.Ytnkfboplafckoaa.copies Go.Proofs.Ytnkfboplafckoaa.makes

theorem elemT : Try.prog.elem 29 = 31 := by kernel_rfl
/-- what s[1:] of terms is -/
theorem run_tail {w : World} {B : Nat} {x : T} {r : List T} {b off c : Nat} (h : LiesS w B (x :: r) (some ⟨b, off, none⟩) c) :
    ∃ A' c', (∀ u : World, (Instr.slice 29 (.slice (some ⟨b, off, none⟩) (r.length + 1) c) (some (.int .i64 1)) none none).run Try.prog u = .ok (.slice A' r.length c') u) ∧ LiesS w B r A' c' := by
  obtain ⟨i0, hi, hz0, hz1, hz2⟩ := info_parts info30
  obtain ⟨xs, h1, h2, h3, v, ys, rfl, h4, h5⟩ := h
  simp only [List.length_cons] at h1 h2
  have hrun : ∀ u : World, (Instr.slice 29 (.slice (some ⟨b, off, none⟩) (r.length + 1) c) (some (.int .i64 1)) none none).run Try.prog u = .ok (sliced (some ⟨b, off, none⟩) 1 (r.length + 1) c 4) u := fun u => by
    refine (run_slice_l (P := Try.prog) u 29 (some ⟨b, off, none⟩) (r.length + 1) c (by rw [elemT]; exact Try.underlying29) .i64 1 (by omega) (by omega)).trans ?_
    simp [elemT, sizeOf, typeInfo, hi, hz1, Result.andThen]
  unfold sliced at hrun
  by_cases hck : c = 1
  · have h0 : r = [] := List.eq_nil_of_length_eq_zero (by omega)
    subst h0
    refine ⟨some ⟨b, off, none⟩, 0, fun u => ?_, [], Nat.zero_le _, by simp, Rd.nil _ _ _, rfl⟩
    rw [hrun u, hck]
    simp
  · refine ⟨some ⟨b, off + 4, none⟩, c - 1, fun u => ?_, ys, by omega, by omega, fun j u hj => ?_, h5⟩
    · rw [hrun u]
      simp [hck, add_plain]
    · obtain ⟨b', off', e, hb, hc⟩ := h3 (j + 4) u (by
        rw [show T.cells x v ++ ys = ([.int .i64 x.k, .int .u64 x.n, .string x.s, v] : List Value) ++ ys from rfl, List.getElem?_append_right (by simp)]
        simpa using hj)
      cases e
      exact ⟨b, off + 4, rfl, hb, by rw [show off + 4 + j = off + (j + 4) by omega]; exact hc⟩
def headB (t : T) (k : Int) : Bool := decide (t.k = 5) && (match t.l with | x :: _ => decide (x.k = k) | [] => false)
/-- what headed answers of a term of another form -/
def noHead : Value := .tuple #[.agg #[.int .i64 0, .int .u64 0, .string ⟨#[]⟩, .slice none 0 0], .slice none 0 0, .bool false]

set_option maxRecDepth 100000 in
set_option maxHeartbeats 1000000 in
theorem headed_no1 (t : T) (u : Value) (k : Int) (w : World) (hk : ¬ t.k = 5) :
    Calls Try.prog 87 #[.agg #[.int .i64 t.k, .int .u64 t.n, .string t.s, u], .int .i64 k] w fun e w' => e = .returned noHead ∧ Below w.heap.size w w' := by
  have k1 := Blk.new (w.alloc (.cells #[.int .i64 t.k, .int .u64 t.n, .string t.s, u] 31)) 31 #[.int .i64 0, .int .u64 0, .string ⟨#[]⟩, .slice none 0 0]
  have b0 : Below w.heap.size w ((w.alloc (.cells #[.int .i64 t.k, .int .u64 t.n, .string t.s, u] 31)).alloc (.cells #[.int .i64 0, .int .u64 0, .string ⟨#[]⟩, .slice none 0 0] 31)) := ((Below.refl _ _).alloc (Nat.le_refl _) _).alloc (by simp) _
  simp only [World.size_alloc] at k1
  have d1 : (t.k != 5) = true := by simpa using hk
  clear hk
  have z0 := k1.cell 0
  have z1 := k1.cell 1
  have z2 := k1.cell 2
  have z3 := k1.cell 3
  simp at z0 z1 z2 z3
  have f0 := k1.frozen 0
  have f1 := k1.frozen 1
  have f2 := k1.frozen 2
  have f3 := k1.frozen 3
  go_enter Try.func87, Try.ntmps87
  go_wp2_with fail
  refine bodyPost_ret (v := noHead) (by simp [results, Try.results87, go_sem, noHead, z0, z1, z2, z3]) rfl ⟨rfl, ?_⟩
  exact b0

set_option maxRecDepth 100000 in
set_option maxHeartbeats 1000000 in
theorem headed_no2 (n : Int) (s : ByteArray) (A : Option Addr) (c : Nat) (k : Int) (w : World)  :
    Calls Try.prog 87 #[.agg #[.int .i64 5, .int .u64 n, .string s, .slice A 0 c], .int .i64 k] w fun e w' => e = .returned noHead ∧ Below w.heap.size w w' := by
  have k1 := Blk.new (w.alloc (.cells #[.int .i64 5, .int .u64 n, .string s, .slice A 0 c] 31)) 31 #[.int .i64 0, .int .u64 0, .string ⟨#[]⟩, .slice none 0 0]
  have b0 : Below w.heap.size w ((w.alloc (.cells #[.int .i64 5, .int .u64 n, .string s, .slice A 0 c] 31)).alloc (.cells #[.int .i64 0, .int .u64 0, .string ⟨#[]⟩, .slice none 0 0] 31)) := ((Below.refl _ _).alloc (Nat.le_refl _) _).alloc (by simp) _
  simp only [World.size_alloc] at k1
  have z0 := k1.cell 0
  have z1 := k1.cell 1
  have z2 := k1.cell 2
  have z3 := k1.cell 3
  simp at z0 z1 z2 z3
  have f0 := k1.frozen 0
  have f1 := k1.frozen 1
  have f2 := k1.frozen 2
  have f3 := k1.frozen 3
  go_enter Try.func87, Try.ntmps87
  go_wp2_with fail
  refine bodyPost_ret (v := noHead) (by simp [results, Try.results87, go_sem, noHead, z0, z1, z2, z3]) rfl ⟨rfl, ?_⟩
  exact b0

set_option maxRecDepth 100000 in
set_option maxHeartbeats 1000000 in
theorem headed_no3 (n : Int) (s : ByteArray) (x : Int) (b off nl c : Nat) (k : Int) (w : World) (hx : w.cell? ⟨b, off, none⟩ = some (.int .i64 x)) (hb : b < w.heap.size) (hn : nl + 1 ≤ 140737488355328) (hne : ¬ x = k) :
    Calls Try.prog 87 #[.agg #[.int .i64 5, .int .u64 n, .string s, .slice (some ⟨b, off, none⟩) (nl + 1) c], .int .i64 k] w fun e w' => e = .returned noHead ∧ Below w.heap.size w w' := by
  have k1 := Blk.new (w.alloc (.cells #[.int .i64 5, .int .u64 n, .string s, .slice (some ⟨b, off, none⟩) (nl + 1) c] 31)) 31 #[.int .i64 0, .int .u64 0, .string ⟨#[]⟩, .slice none 0 0]
  have b0 : Below w.heap.size w ((w.alloc (.cells #[.int .i64 5, .int .u64 n, .string s, .slice (some ⟨b, off, none⟩) (nl + 1) c] 31)).alloc (.cells #[.int .i64 0, .int .u64 0, .string ⟨#[]⟩, .slice none 0 0] 31)) := ((Below.refl _ _).alloc (Nat.le_refl _) _).alloc (by simp) _
  simp only [World.size_alloc] at k1
  have d1 : (x != k) = true := by simpa using hne
  have d2 : ((nl : Int) + 1 == 0) = false := by simp; omega
  have d3 : (0 : Int) < (nl : Int) + 1 := by omega
  clear hne
  have z0 := k1.cell 0
  have z1 := k1.cell 1
  have z2 := k1.cell 2
  have z3 := k1.cell 3
  simp at z0 z1 z2 z3
  have f0 := k1.frozen 0
  have f1 := k1.frozen 1
  have f2 := k1.frozen 2
  have f3 := k1.frozen 3
  go_enter Try.func87, Try.ntmps87
  go_wp2_with fail
  refine bodyPost_ret (v := noHead) (by simp [results, Try.results87, go_sem, noHead, z0, z1, z2, z3]) rfl ⟨rfl, ?_⟩
  exact b0

/-- behind headed's beginning -/
def Hb (w : World) (b off : Nat) (x : T) (ux : Value) (m : Int) (s : ByteArray) (u : Value) (wr : World) : Prop := P4 wr b off x ux ∧ P4 wr w.heap.size 0 (.mk 5 m s []) u ∧ Blk wr (w.heap.size + 1) 31 #[.int .i64 0, .int .u64 0, .string ⟨#[]⟩, .slice none 0 0] ∧ Below w.heap.size w wr ∧ b < w.heap.size
theorem Hb.next {w wr w' : World} {b off : Nat} {x : T} {ux : Value} {m : Int} {s : ByteArray} {u : Value} (h : Hb w b off x ux m s u wr) (hb : Below wr.heap.size wr w') : Hb w b off x ux m s u w' := by
  obtain ⟨h1, h2, h3, h4, h5⟩ := h
  have := h4.size
  have := h3.lt
  exact ⟨h1.next hb (by omega), h2.next hb (by omega), h3.below hb h3.lt, h4.trans (hb.mono h4.size), h5⟩

set_option maxRecDepth 100000 in
set_option maxHeartbeats 1000000 in
theorem headed_yes (m : Int) (s : ByteArray) (x : T) (r : List T) (b off c : Nat) (k : Int) (w : World) (h : LiesS w w.heap.size (x :: r) (some ⟨b, off, none⟩) c) (hk : x.k = k) :
    Calls Try.prog 87 #[.agg #[.int .i64 5, .int .u64 m, .string s, .slice (some ⟨b, off, none⟩) (r.length + 1) c], .int .i64 k] w fun e w' => (∃ A1 nx c1 A' c', e = .returned (.tuple #[.agg #[.int .i64 x.k, .int .u64 x.n, .string x.s, .slice A1 nx c1], .slice A' r.length c', .bool true]) ∧ LiesS w w.heap.size r A' c') ∧ Below w.heap.size w w' := by
  obtain ⟨A', c', hrun, hS⟩ := run_tail h
  obtain ⟨b', off', A1, c1, e, hb, hl0, p0⟩ := S_at h (j := 0) (by simp)
  cases e
  clear hl0
  simp only [Nat.zero_mul, Nat.add_zero, List.getElem_cons_zero] at p0
  generalize x.l.length = nx at p0
  have d1 : (x.k != k) = false := by simp [hk]
  have hlen : r.length + 1 ≤ 140737488355328 := by obtain ⟨_, _, h2, _⟩ := h; simp at h2; omega
  have HS := vers.lay hS
  clear h hS hk
  generalize r.length = nl at *
  have k1 := Blk.new (w.alloc (.cells #[.int .i64 5, .int .u64 m, .string s, .slice (some ⟨b, off, none⟩) (nl + 1) c] 31)) 31 #[.int .i64 0, .int .u64 0, .string ⟨#[]⟩, .slice none 0 0]
  have t1 := (P4.new w (.mk 5 m s []) (.slice (some ⟨b, off, none⟩) (nl + 1) c)).next ((Below.refl (w.heap.size + 1) (w.alloc (.cells #[.int .i64 5, .int .u64 m, .string s, .slice (some ⟨b, off, none⟩) (nl + 1) c] 31))).alloc (by simp) (.cells #[.int .i64 0, .int .u64 0, .string ⟨#[]⟩, .slice none 0 0] 31)) (by omega)
  have b0 : Below w.heap.size w ((w.alloc (.cells #[.int .i64 5, .int .u64 m, .string s, .slice (some ⟨b, off, none⟩) (nl + 1) c] 31)).alloc (.cells #[.int .i64 0, .int .u64 0, .string ⟨#[]⟩, .slice none 0 0] 31)) := ((Below.refl _ _).alloc (Nat.le_refl _) _).alloc (by simp) _
  simp only [World.size_alloc] at k1
  have H0 : Hb w b off x (.slice A1 nx c1) m s (.slice (some ⟨b, off, none⟩) (nl + 1) c) _ := ⟨p0.next b0 hb, t1, k1, b0, hb⟩
  have d2 : ((nl : Int) + 1 == 0) = false := by simp; omega
  have d3 : (0 : Int) < (nl : Int) + 1 := by omega
  clear k1 t1 b0
  have H1 := H0
  obtain ⟨⟨a0, a1, a2, a3⟩, ⟨y0, y1, y2, y3⟩, k1, b0, _⟩ := H1
  simp only [Nat.zero_add, T.k, T.n, T.s] at y0 y1 y2 y3
  have hne1 : b ≠ w.heap.size + 1 := by omega
  have hne2 : w.heap.size + 1 ≠ b := by omega
  have lt1 := k1.lt
  have z0 := k1.cell 0
  have z1 := k1.cell 1
  have z2 := k1.cell 2
  have z3 := k1.cell 3
  simp at z0 z1 z2 z3
  have f0 := k1.frozen 0
  have f1 := k1.frozen 1
  have f2 := k1.frozen 2
  have f3 := k1.frozen 3
  have hkeepB := b0
  clear H0
  obtain ⟨p00, p01, p02, p03⟩ := p0
  go_enter Try.func87, Try.ntmps87
  go_wp2_with fail
  go_region_held3 (fun w' => w'.cell? ⟨b, off, none⟩ = some (.int .i64 x.k) ∧ w'.cell? ⟨b, off + 1, none⟩ = some (.int .u64 x.n) ∧ w'.cell? ⟨b, off + 2, none⟩ = some (.string x.s) ∧ w'.cell? ⟨b, off + 3, none⟩ = some (.slice A1 nx c1) ∧ w'.cell? ⟨w.heap.size, 3, none⟩ = some (.slice (some ⟨b, off, none⟩) (nl + 1) c)) (go_keep) (fail)
  go_wp2_with fail
  refine bodyPost_ret (v := .tuple #[.agg #[.int .i64 x.k, .int .u64 x.n, .string x.s, .slice A1 nx c1], .slice A' nl c', .bool true]) (by simp [results, Try.results87, go_sem, z0, z1, z2, z3]) rfl ?_
  refine ⟨⟨A1, nx, c1, A', c', rfl, HS.out⟩, ?_⟩
  exact ((((Below.refl _ _).alloc (Nat.le_refl _) _).alloc (by simp) _)).drew

theorem headed_no (t : T) (A : Option Addr) (c : Nat) (k : Int) (w : World) (h : LiesS w w.heap.size t.l A c) (hh : headB t k = false) :
    Calls Try.prog 87 #[.agg #[.int .i64 t.k, .int .u64 t.n, .string t.s, .slice A t.l.length c], .int .i64 k] w fun e w' => e = .returned noHead ∧ Below w.heap.size w w' := by
  by_cases h5 : t.k = 5
  · obtain ⟨k5, m, s, l⟩ := t
    cases (show k5 = 5 from h5)
    cases l with
    | nil => exact headed_no2 m s A c k w
    | cons x r =>
      obtain ⟨b', off', A1, c1, e, hb, _, p0⟩ := S_at h (j := 0) (by simp [T.l])
      cases e
      have hne : ¬ x.k = k := by
        have h2 : headB (T.mk 5 m s (x :: r)) k = decide (x.k = k) := by
          show (decide ((5 : Int) = 5) && decide (x.k = k)) = _
          simp
        rw [h2] at hh
        exact of_decide_eq_false hh
      have p00 := p0.1
      simp only [Nat.zero_mul, Nat.add_zero] at p00
      exact headed_no3 m s x.k b' off' r.length c k w p00 hb (by obtain ⟨_, _, h2, _⟩ := h; simp [T.l] at h2; omega) hne
  · exact headed_no1 t _ k w h5
theorem headB_shape {t : T} {k : Int} (h : headB t k = true) : ∃ m s x r, t = T.mk 5 m s (x :: r) ∧ x.k = k := by
  obtain ⟨k5, m, s, l⟩ := t
  unfold headB at h
  rw [Bool.and_eq_true] at h
  obtain ⟨h1, h2⟩ := h
  cases (show k5 = 5 from of_decide_eq_true h1)
  match l, h2 with
  | x :: r, h2 => exact ⟨m, s, x, r, rfl, of_decide_eq_true h2⟩

/-- what of a list is read: all of it, or nothing -/
theorem all_take {f : T → Bool} {l : List T} {j : Nat} (hj : j < l.length) (h : (l.take j).all f = true) (h2 : f l[j] = true) : (l.take (j + 1)).all f = true := by
  rw [List.take_succ_eq_append_getElem hj, List.all_append, h]
  simp [h2]
theorem all_no {f : T → Bool} {l : List T} {j : Nat} (hj : j < l.length) (h2 : f l[j] = false) : l.all f = false := by
  rw [List.all_eq_false]
  exact ⟨l[j], List.getElem_mem hj, by simp [h2]⟩
theorem map_take {α : Type} (g : T → α) (l : List T) {j : Nat} (hj : j < l.length) : (l.take (j + 1)).map g = (l.take j).map g ++ [g l[j]] := by
  rw [List.take_succ_eq_append_getElem hj, List.map_append, List.map_singleton]
def EAnsV (w : World) (l : List T) (e : Ending) (w' : World) : Prop := ∃ m A c, e = .returned (.tuple #[.slice A m.length c, .bool (l.all verB)]) ∧ m = (if l.all verB = true then l.map toV else []) ∧ HVs w' w.heap.size w'.heap.size m A c ∧ Below w.heap.size w w'
def EAnsK (w : World) (l : List T) (e : Ending) (w' : World) : Prop := ∃ m A c, e = .returned (.tuple #[.slice A m.length c, .bool (l.all kidB)]) ∧ m = (if l.all kidB = true then l.map toK else []) ∧ HKs w' w.heap.size w'.heap.size m A c ∧ Below w.heap.size w w'
def EAnsE (w : World) (l : List T) (e : Ending) (w' : World) : Prop := ∃ m A c, e = .returned (.tuple #[.slice A m.length c, .bool (l.all entB)]) ∧ m.map pe = (if l.all entB = true then l.map toEP else []) ∧ HEs w' w.heap.size w'.heap.size m A c ∧ Below w.heap.size w w'
/-- what secretOf answers -/
def SAns (w : World) (t : T) (e : Ending) (w' : World) : Prop := ∃ s m A c, e = .returned (.tuple #[.agg #[.string s, .slice A m.length c], .bool (entB t)]) ∧ (entB t = true → (s, m) = toEP t) ∧ s.size ≤ maxLen ∧ HVs w' w.heap.size w'.heap.size m A c ∧ Below w.heap.size w w'

set_option maxRecDepth 100000 in
set_option maxHeartbeats 1000000 in
theorem eachV_any (l : List T) (A : Option Addr) (c : Nat) (w : World) (h : LiesS w w.heap.size l A c) :
    Calls Try.prog 110 #[.slice A l.length c, .func (.func 111) #[] #[]] w (EAnsV w l) := by
  have hlen : l.length * 56 ≤ 140737488355328 := by obtain ⟨_, _, h2, _⟩ := h; exact h2
  go_enter Try.func110, Try.ntmps110
  go_wp2_with fail
  go_loopw [6, 13] (fun x y wr => ∃ j : Nat, j ≤ l.length ∧ y = .int .i64 j ∧ OwnV w.heap.size wr ((l.take j).map toV) x ∧ Hid ((l.take j).all verB = true) ∧ Below w.heap.size w wr) (fun _ y _ => l.length - (intOf y).toNat)
  case atStart => exact ⟨0, Nat.zero_le _, rfl, OwnV.nil _ _, vers.lay rfl, Below.refl _ _⟩
  case round =>
    obtain ⟨j, hj, rfl, hO, hV, bw⟩ := hrel
    by_cases hlt : j < l.length
    · obtain ⟨b, off, A1, c1, rfl, hb, hL, p0, p1, p2, p3⟩ := S_at (S_keep h bw) hlt
      have hl56 : l[j].l.length ≤ 140737488355328 := by obtain ⟨_, _, h2, _⟩ := (S_of hL).1; omega
      have D1 : Below wr.heap.size wr (wr.alloc (.cells #[.int .i64 l[j].k, .int .u64 l[j].n, .string l[j].s, .slice A1 l[j].l.length c1] 31)) := (Below.refl _ _).alloc (Nat.le_refl _) _
      have b3 := bw.trans (D1.mono bw.size)
      have hS1 : LiesS (wr.alloc (.cells #[.int .i64 l[j].k, .int .u64 l[j].n, .string l[j].s, .slice A1 l[j].l.length c1] 31)) (wr.alloc (.cells #[.int .i64 l[j].k, .int .u64 l[j].n, .string l[j].s, .slice A1 l[j].l.length c1] 31)).heap.size l[j].l A1 c1 := S_more (S_keep (S_more (S_of hL).1 bw.size) D1) D1.size
      have hc := versionOf_any l[j] A1 c1 _ hS1
      have hR : verB l[j] = true → verR l[j] = toV l[j] := fun hv => by unfold verR; rw [if_pos hv]
      have hfit : verB l[j] = true → (toV l[j]).fits := fun hv => toV_fits hS1 hv
      have hty := map_take toV l hlt
      clear hS1 hL
      cases hbb : verB l[j] with
      | false =>
        have hres : Hid (l.all verB = false) := vers.lay (all_no hlt hbb)
        rw [hbb] at hc
        clear hbb hR hfit hty
        generalize verR l[j] = y at hc
        generalize l[j].l.length = nl at *
        go_wp2_with fail
        refine hc.mono ?_
        rintro e w3 ⟨rfl, hb3⟩
        have b4 := b3.trans (hb3.mono b3.size)
        go_wp2_with fail
        go_ret2
        refine ⟨[], none, 0, ?_, ?_, HVs.nil _ _ _, b4.alloc b4.size _⟩
        · rw [hres.out]; rfl
        · rw [hres.out]; rfl
      | true =>
        rw [hR hbb, hbb] at hc
        have hy := hfit hbb
        have hall : Hid ((l.take (j + 1)).all verB = true) := vers.lay (all_take hlt hV.out hbb)
        have HTY : Hid _ := vers.lay hty
        have hl40 : Hid ((((l.take j).map toV).length + 1) * 40 ≤ 140737488355328) := vers.lay (by rw [List.length_map, List.length_take]; omega)
        clear hbb hR hfit hty hV
        generalize toV l[j] = y at hc hy HTY
        generalize l[j].l.length = nl at *
        have hown := fun k hk => (hO.own k hk).2
        have hlo := bw.size
        go_wp2_with fail
        refine hc.mono ?_
        rintro e w3 ⟨rfl, hb3⟩
        have D3 := D1.trans (hb3.mono D1.size)
        have b4 := bw.trans (D3.mono bw.size)
        have D4 := D3.alloc D3.size (.cells #[.int .i64 y.n, .string y.v, .string y.t] 55)
        have hO4 := hO.below D4
        have hz4 := D4.size
        have hlo4 : w.heap.size ≤ (w3.alloc (.cells #[.int .i64 y.n, .string y.v, .string y.t] 55)).heap.size := Nat.le_trans hlo hz4
        have hle := hl40.out
        clear hc D1 b3 hl40 p0 p1 p2 p3 hb3 D3
        go_wp2_with (at_builtin; go_loud (refine append_V rfl _ _ rfl hO4 rfl hlo4 hy (cs := #[.int .i64 y.n, .string y.v, .string y.t]) rfl rfl (by simp) hle ?next))
        case next =>
          intro v5 w5 hO5 hb5 hz5 _
          have b5 : Below w.heap.size w w5 := (b4.alloc b4.size _).trans hb5
          go_wp2_with fail
          exact ⟨⟨j + 1, hlt, by go_num, by rw [HTY.out, List.map_take]; exact hO5, hall, b5⟩, by simp [intOf]; omega⟩
    · have hall : Hid (l.all verB = true) := vers.lay (by have h1 := hV.out; rwa [List.take_of_length_le (by omega)] at h1)
      rw [List.take_of_length_le (by omega)] at hO
      obtain ⟨A3, c3, rfl, hH⟩ := OwnV.hvs hO
      have hln : (l.map toV).length = l.length := List.length_map _
      rw [hln]
      go_wp2_with fail
      go_ret2
      refine ⟨l.map toV, A3, c3, ?_, ?_, hH, bw⟩
      · rw [hall.out, hln]; rfl
      · rw [hall.out]; rfl

set_option maxRecDepth 100000 in
set_option maxHeartbeats 1000000 in
theorem eachK_any (l : List T) (A : Option Addr) (c : Nat) (w : World) (h : LiesS w w.heap.size l A c) :
    Calls Try.prog 90 #[.slice A l.length c, .func (.func 91) #[] #[]] w (EAnsK w l) := by
  have hlen : l.length * 56 ≤ 140737488355328 := by obtain ⟨_, _, h2, _⟩ := h; exact h2
  go_enter Try.func90, Try.ntmps90
  go_wp2_with fail
  go_loopw [6, 13] (fun x y wr => ∃ j : Nat, j ≤ l.length ∧ y = .int .i64 j ∧ OwnK w.heap.size wr ((l.take j).map toK) x ∧ Hid ((l.take j).all kidB = true) ∧ Below w.heap.size w wr) (fun _ y _ => l.length - (intOf y).toNat)
  case atStart => exact ⟨0, Nat.zero_le _, rfl, OwnK.nil _ _, vers.lay rfl, Below.refl _ _⟩
  case round =>
    obtain ⟨j, hj, rfl, hO, hV, bw⟩ := hrel
    by_cases hlt : j < l.length
    · obtain ⟨b, off, A1, c1, rfl, hb, hL, p0, p1, p2, p3⟩ := S_at (S_keep h bw) hlt
      have hl56 : l[j].l.length ≤ 140737488355328 := by obtain ⟨_, _, h2, _⟩ := (S_of hL).1; omega
      have D1 : Below wr.heap.size wr (wr.alloc (.cells #[.int .i64 l[j].k, .int .u64 l[j].n, .string l[j].s, .slice A1 l[j].l.length c1] 31)) := (Below.refl _ _).alloc (Nat.le_refl _) _
      have b3 := bw.trans (D1.mono bw.size)
      have hS1 : LiesS (wr.alloc (.cells #[.int .i64 l[j].k, .int .u64 l[j].n, .string l[j].s, .slice A1 l[j].l.length c1] 31)) (wr.alloc (.cells #[.int .i64 l[j].k, .int .u64 l[j].n, .string l[j].s, .slice A1 l[j].l.length c1] 31)).heap.size l[j].l A1 c1 := S_more (S_keep (S_more (S_of hL).1 bw.size) D1) D1.size
      have hc := kidOf_any l[j] A1 c1 _ hS1
      have hR : kidB l[j] = true → kidR l[j] = toK l[j] := fun hv => by unfold kidR; rw [if_pos hv]
      have hfit : kidB l[j] = true → (toK l[j]).fits := fun hv => toK_fits hS1 hv
      have hty := map_take toK l hlt
      clear hS1 hL
      cases hbb : kidB l[j] with
      | false =>
        have hres : Hid (l.all kidB = false) := vers.lay (all_no hlt hbb)
        rw [hbb] at hc
        clear hbb hR hfit hty
        generalize kidR l[j] = y at hc
        generalize l[j].l.length = nl at *
        go_wp2_with fail
        refine hc.mono ?_
        rintro e w3 ⟨rfl, hb3⟩
        have b4 := b3.trans (hb3.mono b3.size)
        go_wp2_with fail
        go_ret2
        refine ⟨[], none, 0, ?_, ?_, HKs.nil _ _ _, b4.alloc b4.size _⟩
        · rw [hres.out]; rfl
        · rw [hres.out]; rfl
      | true =>
        rw [hR hbb, hbb] at hc
        have hy := hfit hbb
        have hall : Hid ((l.take (j + 1)).all kidB = true) := vers.lay (all_take hlt hV.out hbb)
        have HTY : Hid _ := vers.lay hty
        have hl48 : Hid ((((l.take j).map toK).length + 1) * 48 ≤ 140737488355328) := vers.lay (by rw [List.length_map, List.length_take]; omega)
        clear hbb hR hfit hty hV
        generalize toK l[j] = y at hc hy HTY
        generalize l[j].l.length = nl at *
        have hown := fun k hk => (hO.own k hk).2
        have hlo := bw.size
        go_wp2_with fail
        refine hc.mono ?_
        rintro e w3 ⟨rfl, hb3⟩
        have D3 := D1.trans (hb3.mono D1.size)
        have b4 := bw.trans (D3.mono bw.size)
        have D4 := D3.alloc D3.size (.cells #[.string y.s, .int .u64 (y.k : Int), .int .i64 y.g, .int .i64 y.o, .int .i64 y.n] 43)
        have hO4 := hO.below D4
        have hz4 := D4.size
        have hlo4 : w.heap.size ≤ (w3.alloc (.cells #[.string y.s, .int .u64 (y.k : Int), .int .i64 y.g, .int .i64 y.o, .int .i64 y.n] 43)).heap.size := Nat.le_trans hlo hz4
        have hle := hl48.out
        clear hc D1 b3 hl48 p0 p1 p2 p3 hb3 D3
        go_wp2_with (at_builtin; go_loud (refine append_K rfl _ _ rfl hO4 rfl hlo4 hy (cs := #[.string y.s, .int .u64 (y.k : Int), .int .i64 y.g, .int .i64 y.o, .int .i64 y.n]) rfl rfl (by simp) hle ?next))
        case next =>
          intro v5 w5 hO5 hb5 hz5 _
          have b5 : Below w.heap.size w w5 := (b4.alloc b4.size _).trans hb5
          go_wp2_with fail
          exact ⟨⟨j + 1, hlt, by go_num, by rw [HTY.out, List.map_take]; exact hO5, hall, b5⟩, by simp [intOf]; omega⟩
    · have hall : Hid (l.all kidB = true) := vers.lay (by have h1 := hV.out; rwa [List.take_of_length_le (by omega)] at h1)
      rw [List.take_of_length_le (by omega)] at hO
      obtain ⟨A3, c3, rfl, hH⟩ := OwnK.hks hO
      have hln : (l.map toK).length = l.length := List.length_map _
      rw [hln]
      go_wp2_with fail
      go_ret2
      refine ⟨l.map toK, A3, c3, ?_, ?_, hH, bw⟩
      · rw [hall.out, hln]; rfl
      · rw [hall.out]; rfl

end Go.Proofs.Ytnkfboplafckoaa.nodes
