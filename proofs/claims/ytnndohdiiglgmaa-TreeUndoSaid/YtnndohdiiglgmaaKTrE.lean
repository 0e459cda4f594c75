/- A heap's calls: numbered, NewHeap, Len, Read. -/
import Derived.Test.YtnndohdiiglgmaaKTrD
import Derived.Test.YtnndohdiiglgmaaKQuA
import Derived.Test.YtnndohdiiglgmaaKTrA
import Derived.IntWalk
import Derived.Maps.AppendAt


namespace Go.Proofs.Ytnndohdiiglgmaa.trees
set_option linter.unusedVariables false
set_option linter.unusedSimpArgs false
open Go.RowKit Go.Proofs.Ytnndohdiiglgmaa.base Go.Proofs.Ytnndohdiiglgmaa.vers Go.Proofs.Ytnndohdiiglgmaa.nodes Go.Proofs.Ytnndohdiiglgmaa.quotas

/-- that of the page of that number -/
def refOf (i : Nat) : R := ⟨i + 1, ((i / 4 : Nat) : Int), ((i % 4 : Nat) : Int), 1⟩
/-- what lies under a reference -/
def pageAt (ns : List P3) (r : R) : Option P3 := if r.k ≠ 0 ∧ r = refOf (r.k - 1) then ns[r.k - 1]? else none
theorem pageAt_of (ns : List P3) (i : Nat) : pageAt ns (refOf i) = ns[i]? := by
  unfold pageAt
  rw [if_pos ⟨by simp [refOf], by simp [refOf]⟩]
  simp [refOf]
theorem below_drawn {B : Nat} {w w' : World} (h : Below B w w') (n : Nat) : Below B w (w'.drewN n) := ⟨h.os, h.tape, h.output, h.size, h.block⟩
theorem call_cls {P : Program} {f : FuncId} {args : Array Value} {v : Value} {W : World} {N : World → World} {n : World} (h1 : ∀ n, Below W.heap.size W (N n)) (h2 : ∀ w', Below W.heap.size W w' → ∃ n, w' = N n)
    (hc : Calls P f args (N n) fun e w' => e = .returned v ∧ Below (N n).heap.size (N n) w') : Calls P f args (N n) fun e w'' => e = .returned v ∧ ∃ m, w'' = N m :=
  hc.mono fun _ _ ⟨he, hb⟩ => ⟨he, h2 _ ((h1 n).trans (hb.mono (h1 n).size))⟩
/-- what Read leaves -/
def RPost (w : World) (a : Option P3) (e : Ending) (w' : World) : Prop := Below w.heap.size w w' ∧
  match a with
  | some x => ∃ y : N, e = .returned (.tuple #[y.val, .int .i64 0]) ∧ y.p = x ∧ OwnNF w' (fun g => w.heap.size ≤ g ∧ g < w'.heap.size) y
  | none => e = .returned (.tuple #[.agg #[.bool false, .slice none 0 0, .slice none 0 0], .int .i64 71])

set_option maxRecDepth 100000 in
set_option maxHeartbeats 2000000 in
theorem numbered_any (i : Nat) (w : World) (h : i < 1000000) :
    Calls Try.prog 164 #[.int .i64 (i : Int)] w fun e w' => e = .returned (refOf i).val ∧ Below w.heap.size w w' := by
  have h0 : (0 : Int) ≤ (i : Int) := by omega
  have h1 : (i : Int) < 1000000 := by omega
  have e1 : IntKind.u64.wrap (i : Int) = (i : Int) := by rw [IntKind.wrap_u64]; omega
  go_enter Try.func164, Try.ntmps164
  go_wp2_with fail
  refine bodyPost_ret (v := (refOf i).val) (by simp [results, Try.results164, go_sem, refOf]) rfl ⟨rfl, ?_⟩
  exact (Below.refl _ _).alloc (Nat.le_refl _) _

set_option maxRecDepth 100000 in
set_option maxHeartbeats 2000000 in
theorem newHeap_any (w : World) :
    Calls Try.prog 11 #[] w fun e w' => ∃ h, e = .returned (.pointer (some ⟨h, 0, none⟩)) ∧ w.heap.size ≤ h ∧ Hp w' h (fun g => g = h) [] ∧ Below w.heap.size w w' := by
  have hb : Below w.heap.size w (w.alloc (.cells #[.slice none 0 0] 107)) := (Below.refl _ _).alloc (Nat.le_refl _) _
  have hk := Blk.new w 107 #[.slice none 0 0]
  go_enter Try.func11, Try.ntmps11
  go_wp2_with fail
  go_ret
  exact ⟨_, rfl, Nat.le_refl _, ⟨.slice none 0 0, [], rfl, rfl, (fun g hg => by subst hg; exact hk.lt), hk, ⟨rfl, .inl ⟨rfl, rfl⟩⟩, (fun g hg => by cases hg), by simp, fun x hx => by cases hx⟩, hb⟩

set_option maxRecDepth 100000 in
set_option maxHeartbeats 2000000 in
theorem len_any (h : Nat) (S : Nat → Prop) (ns : List P3) (w : World) (hh : Hp w h S ns) :
    Calls Try.prog 22 #[.pointer (some ⟨h, 0, none⟩)] w fun e w' => e = .returned (.int .i64 (ns.length : Int)) ∧ w' = w := by
  obtain ⟨v, l, rfl, h2, h3, hk, ho, _⟩ := hh
  obtain ⟨A, c, rfl, _⟩ := row_rdF ho
  have x0 := hk.cell 0
  have l0 := hk.lt
  simp at x0
  rw [List.length_map]
  go_enter Try.func22, Try.ntmps22
  go_wp2_with fail
  go_ret
  exact ⟨rfl, rfl⟩

set_option maxRecDepth 100000 in
set_option maxHeartbeats 2000000 in
theorem read_far (r : R) (h : Nat) (S : Nat → Prop) (ns : List P3) (w : World) (hh : Hp w h S ns) (hr : r.fits) (hk : r.k = 0 ∨ ns.length < r.k) :
    Calls Try.prog 162 #[.pointer (some ⟨h, 0, none⟩), r.val] w (RPost w (pageAt ns r)) := by
  have hp : pageAt ns r = none := by
    unfold pageAt
    split
    · rename_i hc
      rw [List.getElem?_eq_none (by omega)]
    · rfl
  rw [hp]
  clear hp
  have hn := hh.len
  obtain ⟨v, l, rfl, h2, h3, hb, ho, _⟩ := hh
  obtain ⟨A, c, rfl, _⟩ := row_rdF ho
  rw [List.length_map] at hk hn
  have x0 := hb.cell 0
  have l0 := hb.lt
  simp at x0
  have e1 : IntKind.u64.wrap (l.length : Int) = (l.length : Int) := by rw [IntKind.wrap_u64]; omega
  obtain ⟨m, hm, hm2⟩ : ∃ m : Int, IntKind.u64.wrap ((r.k : Int) - 1) = m ∧ (l.length : Int) ≤ m := by
    refine ⟨_, rfl, ?_⟩
    rw [IntKind.wrap_u64]
    have := hr.1
    omega
  have d1 : decide ((l.length : Int) ≤ m) = true := decide_eq_true hm2
  obtain ⟨rk, rg, ro, rn⟩ := r
  go_enter Try.func162, Try.ntmps162
  go_wp2_with fail
  go_quiet (fail)
  go_wp2_with fail
  refine bodyPost_ret (v := .tuple #[.agg #[.bool false, .slice none 0 0, .slice none 0 0], .int .i64 71]) (by simp [results, Try.results162, go_sem]) rfl ⟨?_, rfl⟩
  exact three_below (below_drawn (((Below.refl _ _).alloc (Nat.le_refl _) _).alloc (by simp) _) _) (by omega) _ _ _

set_option maxRecDepth 100000 in
set_option maxHeartbeats 2000000 in
theorem read_other (i : Nat) (rg ro rn : Int) (h : Nat) (S : Nat → Prop) (ns : List P3) (w : World) (hh : Hp w h S ns) (hi : i < ns.length) (hr : (⟨i + 1, rg, ro, rn⟩ : R) ≠ refOf i) :
    Calls Try.prog 162 #[.pointer (some ⟨h, 0, none⟩), (⟨i + 1, rg, ro, rn⟩ : R).val] w (RPost w none) := by
  have hn := hh.len
  obtain ⟨v, l, rfl, h2, h3, hb, ho, hv1, _, hv2⟩ := hh
  obtain ⟨A, c, rfl, hlc, _, hrd⟩ := row_rdF ho
  rw [List.length_map] at hi hn
  have x0 := hb.cell 0
  have l0 := hb.lt
  simp at x0
  have e1 : IntKind.u64.wrap (l.length : Int) = (l.length : Int) := by rw [IntKind.wrap_u64]; omega
  have e2 : IntKind.u64.wrap ((i : Int) + 1 - 1) = (i : Int) := by rw [IntKind.wrap_u64]; omega
  have e3 : IntKind.i64.wrap (i : Int) = (i : Int) := IntWalk.i64_in _ (by omega)
  have hi9 : i < 1000000 := by omega
  have i0 : (0 : Int) ≤ (i : Int) := by omega
  have i1 : (i : Int) < (l.length : Int) := by omega
  have d1 : decide (l.length ≤ i) = false := decide_eq_false (by omega)
  have bW : Below w.heap.size w ((w.alloc (.cells #[.int .u64 ((i : Int) + 1), .int .i64 rg, .int .i64 ro, .int .i64 rn] 27)).alloc (.cells #[.bool false, .slice none 0 0, .slice none 0 0] 60)) := ((Below.refl _ _).alloc (Nat.le_refl _) _).alloc (by simp) _
  have k1 := (Blk.new w 27 #[.int .u64 ((i : Int) + 1), .int .i64 rg, .int .i64 ro, .int .i64 rn]).alloc (.cells #[.bool false, .slice none 0 0, .slice none 0 0] 60)
  have k2 := Blk.new (w.alloc (.cells #[.int .u64 ((i : Int) + 1), .int .i64 rg, .int .i64 ro, .int .i64 rn] 27)) 60 #[.bool false, .slice none 0 0, .slice none 0 0]
  rw [World.size_alloc] at k2
  go_enter Try.func162, Try.ntmps162
  go_wp2_with fail
  generalize (w.alloc (.cells #[.int .u64 ((i : Int) + 1), .int .i64 rg, .int .i64 ro, .int .i64 rn] 27)).alloc (.cells #[.bool false, .slice none 0 0, .slice none 0 0] 60) = W at *
  have y0 := (bW.cell (p := ⟨h, 0, none⟩) (by simpa using l0)).trans x0
  have z0 := k1.cell 0
  have z1 := k1.cell 1
  have z2 := k1.cell 2
  have z3 := k1.cell 3
  simp at z0 z1 z2 z3
  have l1 := k1.lt
  have l2 := k2.lt
  have qn : ∀ u : World, (binOp .neq 27 (.agg #[.int .u64 ((i : Int) + 1), .int .i64 rg, .int .i64 ro, .int .i64 rn]) (refOf i).val).run Try.prog u = .ok (.bool true) u := fun u => by
    have h := ref_neq ⟨i + 1, rg, ro, rn⟩ (refOf i) u
    rw [decide_eq_false hr] at h
    exact h
  obtain ⟨N, hN, hM⟩ := norms (fun w' => Below W.heap.size W w') _ (Below.refl _ _)
  have hne : Nonempty World := ⟨w⟩
  have q0 := fun n => ((hN n).cell (p := ⟨h, 0, none⟩) (by simp only; omega)).trans y0
  have q1 := fun n => ((hN n).cell (p := ⟨w.heap.size, 0, none⟩) (by simp only; omega)).trans z0
  have q2 := fun n => ((hN n).cell (p := ⟨w.heap.size, 1, none⟩) (by simp only; omega)).trans z1
  have q3 := fun n => ((hN n).cell (p := ⟨w.heap.size, 2, none⟩) (by simp only; omega)).trans z2
  have q4 := fun n => ((hN n).cell (p := ⟨w.heap.size, 3, none⟩) (by simp only; omega)).trans z3
  refine region_class N (by kernel_rfl) (by kernel_rfl) (hM _ ((Below.refl _ _).drew)) ?_
  repeat (go_big_quiet_step (first
    | (go_at_call 164; exact call_cls hN hM (numbered_any i _ hi9))))
  refine wpQuiet_nil ?_
  rintro _ ⟨n, rfl⟩
  have I9 := hN n
  generalize N n = w9 at I9 ⊢
  clear q0 q1 q2 q3 q4 hM hN N n hne
  have b9 := bW.trans (I9.mono bW.size)
  have k9 := k2.below I9 l2
  have f0 := k9.frozen 0
  have f1 := k9.frozen 1
  have f2 := k9.frozen 2
  have c0 := k9.cell 0
  have c1 := k9.cell 1
  have c2 := k9.cell 2
  simp at c0 c1 c2
  have l9 := k9.lt
  go_wp2_with fail
  refine bodyPost_ret (v := .tuple #[.agg #[.bool false, .slice none 0 0, .slice none 0 0], .int .i64 71]) (by simp [results, Try.results162, go_sem, c0, c1, c2]) rfl ⟨?_, rfl⟩
  exact three_below b9 (by omega) _ _ _

set_option maxRecDepth 100000 in
set_option maxHeartbeats 2000000 in
theorem read_ok (i : Nat) (rg ro rn : Int) (h : Nat) (S : Nat → Prop) (ns : List P3) (w : World) (hh : Hp w h S ns) (hi : i < ns.length) (hr : (⟨i + 1, rg, ro, rn⟩ : R) = refOf i) :
    Calls Try.prog 162 #[.pointer (some ⟨h, 0, none⟩), (⟨i + 1, rg, ro, rn⟩ : R).val] w (RPost w (some ns[i])) := by
  have HR := vers.lay hr
  clear hr
  have hn := hh.len
  obtain ⟨v, l, rfl, h2, h3, hb, ho, hv1, _, hv2⟩ := hh
  obtain ⟨A, c, rfl, hlc, _, hrd⟩ := row_rdF ho
  rw [List.length_map] at hi hn
  have x0 := hb.cell 0
  have l0 := hb.lt
  simp at x0
  have e1 : IntKind.u64.wrap (l.length : Int) = (l.length : Int) := by rw [IntKind.wrap_u64]; omega
  have e2 : IntKind.u64.wrap ((i : Int) + 1 - 1) = (i : Int) := by rw [IntKind.wrap_u64]; omega
  have e3 : IntKind.i64.wrap (i : Int) = (i : Int) := IntWalk.i64_in _ (by omega)
  have hi9 : i < 1000000 := by omega
  have i0 : (0 : Int) ≤ (i : Int) := by omega
  have i1 : (i : Int) < (l.length : Int) := by omega
  have d1 : decide (l.length ≤ i) = false := decide_eq_false (by omega)
  have bW : Below w.heap.size w ((w.alloc (.cells #[.int .u64 ((i : Int) + 1), .int .i64 rg, .int .i64 ro, .int .i64 rn] 27)).alloc (.cells #[.bool false, .slice none 0 0, .slice none 0 0] 60)) := ((Below.refl _ _).alloc (Nat.le_refl _) _).alloc (by simp) _
  have k1 := (Blk.new w 27 #[.int .u64 ((i : Int) + 1), .int .i64 rg, .int .i64 ro, .int .i64 rn]).alloc (.cells #[.bool false, .slice none 0 0, .slice none 0 0] 60)
  have k2 := Blk.new (w.alloc (.cells #[.int .u64 ((i : Int) + 1), .int .i64 rg, .int .i64 ro, .int .i64 rn] 27)) 60 #[.bool false, .slice none 0 0, .slice none 0 0]
  rw [World.size_alloc] at k2
  rw [List.getElem_map]
  have hx := hv2 l[i] (List.getElem_mem hi)
  have hxe := hx.1.es
  have hxk := hx.2.ks
  obtain ⟨e0, e1', e2'⟩ := cellsN_at l hi
  obtain ⟨gP, cap, e9, _, hgP, _⟩ := own_slice_form ho (by omega)
  injection e9 with e91 _ e92
  subst e91 e92
  have p0 := (ho.cellAt (i * 3) (by omega)).trans (by simpa only [Nat.mul_comm] using e0)
  have p1 := (ho.cellAt (i * 3 + 1) (by omega)).trans (by simpa only [Nat.mul_comm] using e1')
  have p2 := (ho.cellAt (i * 3 + 2) (by omega)).trans (by simpa only [Nat.mul_comm] using e2')
  clear e0 e1' e2' hx
  generalize l[i] = x at hxe hxk p0 p1 p2 ⊢
  obtain ⟨xlf, xes, xks, xA, xc, xQ, xm⟩ := x
  simp only at hxe hxk p0 p1 p2
  go_enter Try.func162, Try.ntmps162
  go_wp2_with fail
  generalize (w.alloc (.cells #[.int .u64 ((i : Int) + 1), .int .i64 rg, .int .i64 ro, .int .i64 rn] 27)).alloc (.cells #[.bool false, .slice none 0 0, .slice none 0 0] 60) = W at *
  have y0 := (bW.cell (p := ⟨h, 0, none⟩) (by simpa using l0)).trans x0
  have z0 := k1.cell 0
  have z1 := k1.cell 1
  have z2 := k1.cell 2
  have z3 := k1.cell 3
  simp at z0 z1 z2 z3
  have l1 := k1.lt
  have l2 := k2.lt
  have qn : ∀ u : World, (binOp .neq 27 (.agg #[.int .u64 ((i : Int) + 1), .int .i64 rg, .int .i64 ro, .int .i64 rn]) (refOf i).val).run Try.prog u = .ok (.bool false) u := fun u => by
    have h := ref_neq ⟨i + 1, rg, ro, rn⟩ (refOf i) u
    rw [decide_eq_true HR.out] at h
    exact h
  obtain ⟨N, hN, hM⟩ := norms (fun w' => Below W.heap.size W w') _ (Below.refl _ _)
  have hne : Nonempty World := ⟨w⟩
  have q0 := fun n => ((hN n).cell (p := ⟨h, 0, none⟩) (by simp only; omega)).trans y0
  have q1 := fun n => ((hN n).cell (p := ⟨w.heap.size, 0, none⟩) (by simp only; omega)).trans z0
  have q2 := fun n => ((hN n).cell (p := ⟨w.heap.size, 1, none⟩) (by simp only; omega)).trans z1
  have q3 := fun n => ((hN n).cell (p := ⟨w.heap.size, 2, none⟩) (by simp only; omega)).trans z2
  have q4 := fun n => ((hN n).cell (p := ⟨w.heap.size, 3, none⟩) (by simp only; omega)).trans z3
  refine region_class N (by kernel_rfl) (by kernel_rfl) (hM _ ((Below.refl _ _).drew)) ?_
  repeat (go_big_quiet_step (first
    | (go_at_call 164; exact call_cls hN hM (numbered_any i _ hi9))))
  refine wpQuiet_nil ?_
  rintro _ ⟨n, rfl⟩
  have I9 := hN n
  generalize N n = w9 at I9 ⊢
  clear q0 q1 q2 q3 q4 hM hN N n hne
  have b9 := bW.trans (I9.mono bW.size)
  have k9 := k2.below I9 l2
  have l9 := k9.lt
  have y0 := (b9.cell (p := ⟨h, 0, none⟩) (by simpa using l0)).trans x0
  have p0 := (b9.cell (p := ⟨gP, i * 3, none⟩) (by simpa using hgP)).trans p0
  have p1 := (b9.cell (p := ⟨gP, i * 3 + 1, none⟩) (by simpa using hgP)).trans p1
  have p2 := (b9.cell (p := ⟨gP, i * 3 + 2, none⟩) (by simpa using hgP)).trans p2
  have i3 : (l.length : Int) ≤ 140737488355328 := by omega
  have hl9 : h < w9.heap.size := by have := b9.size; omega
  have hg9 : gP < w9.heap.size := by have := b9.size; omega
  have hc := copied_any xlf xes xks xA xc xQ xm w9 ((hxe.below b9).more b9.size) ((hxk.below b9).more b9.size)
  clear qn hb ho hv1 hv2 hrd hxe hxk
  go_wp2_with fail
  refine hc.mono ?_
  rintro e w1 ⟨y, rfl, hy, hO, hb1⟩
  obtain ⟨ylf, yes, yks, yA, yc, yQ, ym⟩ := y
  have k1 := k9.below hb1 l9
  have f0 := k1.frozen 0
  have f1 := k1.frozen 1
  have f2 := k1.frozen 2
  have c0 := k1.cell 0
  have c1 := k1.cell 1
  have c2 := k1.cell 2
  simp at c0 c1 c2
  have l1 := k1.lt
  have b1 := b9.trans (hb1.mono b9.size)
  have s9 := b9.size
  clear hc p0 p1 p2 y0
  go_wp2_with fail
  refine bodyPost_ret (v := .tuple #[(⟨ylf, yes, yks, yA, yc, yQ, ym⟩ : N).val, .int .i64 0]) (by simp [results, Try.results162, go_sem, c0, c1, c2]) rfl ⟨?_, ⟨ylf, yes, yks, yA, yc, yQ, ym⟩, rfl, hy, ?_⟩
  · exact three_below b1 (by omega) _ _ _
  · have hsz := three_size w1 (w.heap.size + 1) (.bool ylf) (.slice yA yes.length yc) (.slice yQ yks.length ym)
    exact (hO.agree fun g hg => three_heap _ _ _ _ _ _ (by omega)).mono fun g hg => ⟨by omega, by have h9 : g < w1.heap.size := hg.2; rw [← hsz] at h9; exact h9⟩

theorem read_any (r : R) (h : Nat) (S : Nat → Prop) (ns : List P3) (w : World) (hh : Hp w h S ns) (hr : r.fits) :
    Calls Try.prog 162 #[.pointer (some ⟨h, 0, none⟩), r.val] w (RPost w (pageAt ns r)) := by
  by_cases hk : r.k = 0 ∨ ns.length < r.k
  · exact read_far r h S ns w hh hr hk
  · obtain ⟨rk, rg, ro, rn⟩ := r
    simp only at hk
    obtain ⟨i, rfl⟩ : ∃ i, rk = i + 1 := ⟨rk - 1, by omega⟩
    have hi : i < ns.length := by omega
    by_cases he : (⟨i + 1, rg, ro, rn⟩ : R) = refOf i
    · have hp : pageAt ns ⟨i + 1, rg, ro, rn⟩ = some ns[i] := by rw [he, pageAt_of, List.getElem?_eq_getElem hi]
      rw [hp]
      exact read_ok i rg ro rn h S ns w hh hi he
    · have hp : pageAt ns ⟨i + 1, rg, ro, rn⟩ = none := by
        unfold pageAt
        rw [if_neg]
        rintro ⟨_, e⟩
        exact he (by simpa using e)
      rw [hp]
      exact read_other i rg ro rn h S ns w hh hi he

end Go.Proofs.Ytnndohdiiglgmaa.trees

/- Append of one element to a row of the call's own, by blocks. -/

namespace Go.Proofs.Ytnndohdiiglgmaa.trees
set_option linter.unusedVariables false
set_option linter.unusedSimpArgs false
open Go.RowKit Go.Proofs.Ytnndohdiiglgmaa.base Go.Proofs.Ytnndohdiiglgmaa.vers Go.Proofs.Ytnndohdiiglgmaa.nodes

section
variable {P : Program}
theorem run_put1 {e tS ty : TypeId} {i0 : TypeInfo} {z : Value} {size bytes : Nat} (hun : P.underlying tS = some (.slice e)) (hi0 : P.info? e = some i0) (hz0 : i0.zero = some z) (hz1 : i0.size = size) (hz2 : i0.bytes = bytes) (hzs : z.cells.size = size) (hsz : 0 < size)
    {w : World} {v : Value} {n : Nat} {xs : List Value} {cs : Array Value} (hown : w.ownsRow 0 e size v n xs) (hcs : cs.toList.length = size) (h1 : ∀ u ∈ cs.toList, u.oneCell' = true) (hlen : (n + 1) * bytes ≤ 140737488355328) (hmax : n + 1 ≤ maxLen) :
    ∃ v' w', (Builtin.append_ #[tS, tS] ty #[v, .slice (some ⟨w.heap.size, 0, none⟩) 1 1]).run P (w.alloc (.cells cs e)) = .ok v' w' ∧ w'.ownsRow 0 e size v' (n + 1) (xs ++ cs.toList) ∧ Keep (fun g => v.ownBlock = some g) w w' ∧ (∀ g, v'.ownBlock = some g → v.ownBlock = some g ∨ (w.heap.size ≤ g ∧ g < w'.heap.size)) ∧ w.heap.size + 1 ≤ w'.heap.size := by
  have hownA : (w.alloc (.cells cs e)).ownsRow 0 e size v n xs := row_below hown ((Below.refl _ _).alloc (Nat.le_refl _) _)
  have hnews := World.news_of_block (cs := cs) (t := e) (fr := (0, 0)) (heap_alloc_new w (.cells cs e))
  obtain ⟨v', w', hr, ho', hg, _, hat⟩ := run_append_own_at (P := P) (w.alloc (.cells cs e)) 0 tS ty e i0 z size bytes hun hi0 hz0 hz1 hz2 hzs hsz v n xs hownA ⟨w.heap.size, 0, none⟩ 1 1 cs.toList (by omega) hnews h1 hmax hlen (Nat.zero_le _)
  have hz := hg.size
  simp only [World.size_alloc] at hz
  have hlt := ho'.lt
  refine ⟨v', w', hr, ho', ⟨hg.os, hg.tape, hg.output, by omega, fun k hk hn => ?_⟩, fun g hg' => ?_, hz⟩
  · exact (hg.block k (by simp; omega) (fun e => hn e.symm)).trans (Below.heap_alloc w _ k hk)
  · rcases hat with e1 | e1
    · exact .inl (e1 ▸ hg')
    · rw [e1] at hg'
      injection hg' with hg'
      simp only [World.size_alloc] at hg'
      have := hlt g (by rw [e1]; simp; omega)
      exact .inr ⟨by omega, this.2⟩
theorem wp_put1 {e tS : TypeId} {i0 : TypeInfo} {z : Value} {size bytes : Nat} (hun : P.underlying tS = some (.slice e)) (hi0 : P.info? e = some i0) (hz0 : i0.zero = some z) (hz1 : i0.size = size) (hz2 : i0.bytes = bytes) (hzs : z.cells.size = size) (hsz : 0 < size)
    {o : Oper} {a : Act} {K : Act → World → Prop} {Q : Exit → Act → World → Prop} (s x : Operand) (ho : o.op = .call { callee := .builtin .append, args := #[s, x], argTypes := #[tS, tS] })
    {w : World} {v : Value} {n : Nat} {xs : List Value} {cs : Array Value} (hown : w.ownsRow 0 e size v n xs) (hs : a.eval s = v) (hcs : cs.toList.length = size) (h1 : ∀ u ∈ cs.toList, u.oneCell' = true) {q : Nat} (hx : a.eval x = .slice (some ⟨q, 0, none⟩) 1 1) (hqz : q = w.heap.size) (hlen : (n + 1) * bytes ≤ 140737488355328) (hmax : n + 1 ≤ maxLen)
    (h : ∀ v' w', w'.ownsRow 0 e size v' (n + 1) (xs ++ cs.toList) → Keep (fun g => v.ownBlock = some g) w w' → (∀ g, v'.ownBlock = some g → v.ownBlock = some g ∨ (w.heap.size ≤ g ∧ g < w'.heap.size)) → w.heap.size + 1 ≤ w'.heap.size → K (a.put o.dst v') w') :
    Oper.wp P o a (w.alloc (.cells cs e)) K Q := by
  subst hqz
  obtain ⟨v', w', hr, h2, h3, h4, h5⟩ := run_put1 (ty := o.type) hun hi0 hz0 hz1 hz2 hzs hsz hown hcs h1 hlen hmax
  unfold Oper.wp execOp
  simp only [ho, resolve, invoke, builtin, Sem.run_bind, Sem.run_pure, Result.andThen_ok, List.map_toArray, List.map_cons, List.map_nil, hs, hx, hr]
  exact h v' w' h2 h3 h4 h5
theorem wpList_put1 {e tS : TypeId} {i0 : TypeInfo} {z : Value} {size bytes : Nat} (hun : P.underlying tS = some (.slice e)) (hi0 : P.info? e = some i0) (hz0 : i0.zero = some z) (hz1 : i0.size = size) (hz2 : i0.bytes = bytes) (hzs : z.cells.size = size) (hsz : 0 < size)
    {ops : Array Oper} {rest : List Oper} {o : Oper} {a : Act} {Q : Exit → Act → World → Prop} (hgd : o.guard = none) (s x : Operand) (ho : o.op = .call { callee := .builtin .append, args := #[s, x], argTypes := #[tS, tS] })
    {w : World} {v : Value} {n : Nat} {xs : List Value} {cs : Array Value} (hown : w.ownsRow 0 e size v n xs) (hs : a.eval s = v) (hcs : cs.toList.length = size) (h1 : ∀ u ∈ cs.toList, u.oneCell' = true) {q : Nat} (hx : a.eval x = .slice (some ⟨q, 0, none⟩) 1 1) (hqz : q = w.heap.size) (hlen : (n + 1) * bytes ≤ 140737488355328) (hmax : n + 1 ≤ maxLen)
    (h : ∀ v' w', w'.ownsRow 0 e size v' (n + 1) (xs ++ cs.toList) → Keep (fun g => v.ownBlock = some g) w w' → (∀ g, v'.ownBlock = some g → v.ownBlock = some g ∨ (w.heap.size ≤ g ∧ g < w'.heap.size)) → w.heap.size + 1 ≤ w'.heap.size → wpList P ops Q rest (a.put o.dst v') w') :
    wpList P ops Q (o :: rest) a (w.alloc (.cells cs e)) :=
  wpList_plain hgd fun _ hK => wp_put1 hun hi0 hz0 hz1 hz2 hzs hsz s x ho hown hs hcs h1 hx hqz hlen hmax fun v' w' h2 h3 h4 h5 => hK _ _ (h v' w' h2 h3 h4 h5)
end
end Go.Proofs.Ytnndohdiiglgmaa.trees

/- A heap's Write. -/

namespace Go.Proofs.Ytnndohdiiglgmaa.trees
set_option linter.unusedVariables false
set_option linter.unusedSimpArgs false
open Go.RowKit Go.Proofs.Ytnndohdiiglgmaa.base Go.Proofs.Ytnndohdiiglgmaa.vers Go.Proofs.Ytnndohdiiglgmaa.nodes Go.Proofs.Ytnndohdiiglgmaa.quotas

theorem infoN : (Try.prog.info? 60).map (fun i => (i.zero, i.size, i.bytes)) = some (some (.agg #[.bool false, .slice none 0 0, .slice none 0 0]), 3, 56) := by kernel_rfl
abbrev More (S : Nat → Prop) (w w' : World) (g : Nat) : Prop := S g ∨ (w.heap.size ≤ g ∧ g < w'.heap.size)
/-- what Write leaves -/
def WPost (w : World) (h : Nat) (S : Nat → Prop) (ns : List P3) (x : P3) (e : Ending) (w' : World) : Prop := Keep S w w' ∧
  if ns.length < 20000 then e = .returned (.tuple #[(refOf ns.length).val, .int .i64 0]) ∧ Hp w' h (More S w w') (ns ++ [x])
  else e = .returned (.tuple #[.agg #[.int .u64 0, .int .i64 0, .int .i64 0, .int .i64 0], .int .i64 2]) ∧ Hp w' h S ns
def four4 (w : World) (g : Nat) (a b c d : Value) : World := (((w.setCell ⟨g, 0, none⟩ a).setCell ⟨g, 1, none⟩ b).setCell ⟨g, 2, none⟩ c).setCell ⟨g, 3, none⟩ d
theorem four4_heap (w : World) (g : Nat) (a b c d : Value) (k : Nat) (h : k ≠ g) : (four4 w g a b c d).heap[k]? = w.heap[k]? := by
  unfold four4
  rw [Below.heap_setCell _ _ _ _ (by simpa using h), Below.heap_setCell _ _ _ _ (by simpa using h), Below.heap_setCell _ _ _ _ (by simpa using h), Below.heap_setCell _ _ _ _ (by simpa using h)]
theorem four4_size (w : World) (g : Nat) (a b c d : Value) : (four4 w g a b c d).heap.size = w.heap.size := by simp [four4]
theorem four4_keep {S : Nat → Prop} {w w' : World} (h : Keep S w w') {g : Nat} (hg : w.heap.size ≤ g) (a b c d : Value) : Keep S w (four4 w' g a b c d) :=
  ⟨h.os, h.tape, h.output, by rw [four4_size]; exact h.size, fun k hk hn => (four4_heap _ _ _ _ _ _ _ (by omega)).trans (h.block k hk hn)⟩
theorem four4_below {B g : Nat} {w w' : World} (h : Below B w w') (hg : B ≤ g) (a b c d : Value) : Below B w (four4 w' g a b c d) :=
  (((h.setCell (p := ⟨g, 0, none⟩) hg a).setCell (p := ⟨g, 1, none⟩) hg b).setCell (p := ⟨g, 2, none⟩) hg c).setCell (p := ⟨g, 3, none⟩) hg d
theorem Hp.four {w : World} {h : Nat} {S : Nat → Prop} {ns : List P3} (hh : Hp w h S ns) {g : Nat} (hg : ¬ S g) (a b c d : Value) : Hp (four4 w g a b c d) h S ns :=
  hh.agree (fun k hk => four4_heap _ _ _ _ _ _ _ (fun e => hg (e ▸ hk))) (by rw [four4_size]; exact Nat.le_refl _)
theorem Hp.mono {w : World} {h : Nat} {S S' : Nat → Prop} {ns : List P3} (hh : Hp w h S ns) (hS : ∀ g, S g → S' g) (hl : ∀ g, S' g → g < w.heap.size) : Hp w h S' ns := by
  obtain ⟨v, l, h1, h2, h3, h4, h5, h6, h7, h8⟩ := hh
  exact ⟨v, l, h1, hS h h2, hl, h4, h5, fun g hg => ⟨hS g (h6 g hg).1, (h6 g hg).2⟩, h7, fun x hx => (h8 x hx).mono fun g hg => ⟨hS g hg.1, hg.2⟩⟩

/-- the page is appended, the heap's own cell is set -/
theorem Hp.put {w w1 w2 : World} {h : Nat} {S : Nat → Prop} {l : List N} {v v' : Value} {y : N} (hS : S h) (hlt : ∀ g, S g → g < w.heap.size) (hk : Blk w h 107 #[v]) (hv : ∀ g, v.ownBlock = some g → S g ∧ g ≠ h) (hl : l.length < 20000)
    (hns : ∀ x ∈ l, NsF w (fun g => S g ∧ g ≠ h ∧ some g ≠ v.ownBlock) x) (hb : Below w.heap.size w w1) (B : Nat) (hB : w.heap.size ≤ B ∧ B ≤ w1.heap.size) (hy : OwnNF w1 (fun g => B ≤ g ∧ g < w1.heap.size) y) (hK : Keep (fun g => v.ownBlock = some g) w1 w2)
    (ho : w2.ownsRow 0 60 3 v' (l.length + 1) (cellsN l ++ y.cells)) (hv' : ∀ g, v'.ownBlock = some g → v.ownBlock = some g ∨ (w1.heap.size ≤ g ∧ g < w2.heap.size)) :
    Hp (w2.setCell ⟨h, 0, none⟩ v') h (fun g => S g ∨ (B ≤ g ∧ g < w2.heap.size)) (l.map N.p ++ [y.p]) ∧ Keep S w (w2.setCell ⟨h, 0, none⟩ v') := by
  have hs1 := hb.size
  have hs2 := hK.size
  have hh := hlt h hS
  have hn : v.ownBlock ≠ some h := fun e => (hv h e).2 rfl
  have hfar : ∀ k, k ≠ h → (w2.setCell ⟨h, 0, none⟩ v').heap[k]? = w2.heap[k]? := fun k hk => Below.heap_setCell _ _ _ _ (by simpa using hk)
  have hvh : ∀ g, v'.ownBlock = some g → g ≠ h := fun g hg e => by
    rcases hv' g hg with h1 | h1
    · exact (hv g h1).2 e
    · omega
  refine ⟨⟨v', l ++ [y], by simp, .inl hS, fun g hg => ?_, ?_, ?_, ?_, ?_, ?_⟩, ?_⟩
  · rw [World.size_setCell]
    rcases hg with hg | hg
    · have := hlt g hg; omega
    · exact hg.2
  · exact ((hK.blk (Blk.below hk hb hh) hn).put 0 v')
  · rw [List.length_append, List.length_singleton, cellsN_app]
    have h1 : cellsN [y] = y.cells := by simp [cellsN]
    rw [h1]
    exact ownsRow_agree ho fun g hg => hfar g (hvh g hg)
  · intro g hg
    refine ⟨?_, hvh g hg⟩
    rcases hv' g hg with h1 | h1
    · exact .inl (hv g h1).1
    · exact .inr ⟨by omega, h1.2⟩
  · simp; omega
  · intro x hx
    rcases List.mem_append.1 hx with h1 | h1
    · refine ((hns x h1).agree (fun g hg => ?_)).mono fun g hg => ⟨.inl hg.1, hg.2.1, fun e => ?_⟩
      · have hg1 := hlt g hg.1
        exact (hfar g hg.2.1).trans ((hK.block g (by omega) (fun e => hg.2.2 e.symm)).trans (hb.block g hg1))
      · rcases hv' g e.symm with h2 | h2
        · exact hg.2.2 h2.symm
        · have := hlt g hg.1; omega
    · rw [List.mem_singleton.1 h1]
      refine ((hy.ns).agree (fun g hg => ?_)).mono fun g hg => ⟨.inr ⟨by omega, by omega⟩, fun e => ?_, fun e => ?_⟩
      · exact (hfar g (by omega)).trans (hK.block g hg.2 (fun e => by have := hlt g (hv g e).1; omega))
      · have := hg.1; omega
      · rcases hv' g e.symm with h2 | h2
        · have := hlt g (hv g h2).1; omega
        · have := hg.2; omega
  · refine ⟨hK.os.trans hb.os, hK.tape.trans hb.tape, hK.output.trans hb.output, (by simp; omega), fun k hk hn => ?_⟩
    exact (hfar k (fun e => hn (e ▸ hS))).trans ((hK.block k (by omega) (fun e => hn (hv k e).1)).trans (hb.block k hk))

set_option maxRecDepth 100000 in
set_option maxHeartbeats 2000000 in
theorem write_long (lf : Bool) (es : List E) (ks : List K) (A : Option Addr) (c : Nat) (Q : Option Addr) (m : Nat) (h : Nat) (S : Nat → Prop) (ns : List P3) (w : World) (hh : Hp w h S ns) (hn : ¬ ns.length < 20000) :
    Calls Try.prog 163 #[.pointer (some ⟨h, 0, none⟩), .agg #[.bool lf, .slice A es.length c, .slice Q ks.length m]] w (WPost w h S ns (lf, es.map pe, ks)) := by
  have hfin : ∀ e w', Below w.heap.size w w' → e = .returned (.tuple #[.agg #[.int .u64 0, .int .i64 0, .int .i64 0, .int .i64 0], .int .i64 2]) → WPost w h S ns (lf, es.map pe, ks) e w' := fun e w' hb he => ⟨Keep.of_below hb, by rw [if_neg hn]; exact ⟨he, hh.below hb⟩⟩
  obtain ⟨v, l, rfl, h2, h3, hb, ho, hv1, hl20, hv2⟩ := id hh
  obtain ⟨PA, pc, rfl, hlc, _, _⟩ := row_rdF ho
  rw [List.length_map] at hn
  have k1 := (Blk.new w 60 #[.bool lf, .slice A es.length c, .slice Q ks.length m]).alloc (.cells #[.int .u64 0, .int .i64 0, .int .i64 0, .int .i64 0] 27)
  have k2 := Blk.new (w.alloc (.cells #[.bool lf, .slice A es.length c, .slice Q ks.length m] 60)) 27 #[.int .u64 0, .int .i64 0, .int .i64 0, .int .i64 0]
  have bW : Below w.heap.size w ((w.alloc (.cells #[.bool lf, .slice A es.length c, .slice Q ks.length m] 60)).alloc (.cells #[.int .u64 0, .int .i64 0, .int .i64 0, .int .i64 0] 27)) := ((Below.refl _ _).alloc (Nat.le_refl _) _).alloc (by simp) _
  rw [World.size_alloc] at k2
  have x0 := hb.cell 0
  have l0 := hb.lt
  simp at x0
  have i3 : (l.length : Int) ≤ 140737488355328 := by omega
  have d1 : decide ((20000 : Int) ≤ (l.length : Int)) = true := decide_eq_true (by omega)
  go_enter Try.func163, Try.ntmps163
  go_wp2_with fail
  refine bodyPost_ret (v := .tuple #[.agg #[.int .u64 0, .int .i64 0, .int .i64 0, .int .i64 0], .int .i64 2]) (by simp [results, Try.results163, go_sem]) rfl (hfin _ _ ?_ rfl)
  first | exact bW | exact four4_below bW (by simp) _ _ _ _

set_option maxRecDepth 100000 in
set_option maxHeartbeats 2000000 in
theorem write_ok (lf : Bool) (es : List E) (ks : List K) (A : Option Addr) (c : Nat) (Q : Option Addr) (m : Nat) (h : Nat) (S : Nat → Prop) (ns : List P3) (w : World) (hh : Hp w h S ns) (hn : ns.length < 20000) (hv : Es w w.heap.size es A c) (hk : Ks w w.heap.size ks Q m) :
    Calls Try.prog 163 #[.pointer (some ⟨h, 0, none⟩), .agg #[.bool lf, .slice A es.length c, .slice Q ks.length m]] w (WPost w h S ns (lf, es.map pe, ks)) := by
  obtain ⟨i0, hi0, hz0, hz1, hz2⟩ := info_parts infoN
  have hHn := vers.lay hn
  obtain ⟨v, l, rfl, h2, h3, hb, ho, hv1, hl20, hv2⟩ := id hh
  obtain ⟨PA, pc, rfl, hlc, _, _⟩ := row_rdF ho
  rw [List.length_map] at hn
  have k1 := (Blk.new w 60 #[.bool lf, .slice A es.length c, .slice Q ks.length m]).alloc (.cells #[.int .u64 0, .int .i64 0, .int .i64 0, .int .i64 0] 27)
  have k2 := Blk.new (w.alloc (.cells #[.bool lf, .slice A es.length c, .slice Q ks.length m] 60)) 27 #[.int .u64 0, .int .i64 0, .int .i64 0, .int .i64 0]
  have bW : Below w.heap.size w ((w.alloc (.cells #[.bool lf, .slice A es.length c, .slice Q ks.length m] 60)).alloc (.cells #[.int .u64 0, .int .i64 0, .int .i64 0, .int .i64 0] 27)) := ((Below.refl _ _).alloc (Nat.le_refl _) _).alloc (by simp) _
  rw [World.size_alloc] at k2
  have x0 := hb.cell 0
  have l0 := hb.lt
  simp at x0
  have i3 : (l.length : Int) ≤ 140737488355328 := by omega
  have d1 : decide ((20000 : Int) ≤ (l.length : Int)) = false := decide_eq_false (by omega)
  go_enter Try.func163, Try.ntmps163
  go_wp2_with fail
  generalize (w.alloc (.cells #[.bool lf, .slice A es.length c, .slice Q ks.length m] 60)).alloc (.cells #[.int .u64 0, .int .i64 0, .int .i64 0, .int .i64 0] 27) = W at *
  have y0 := (bW.cell (p := ⟨h, 0, none⟩) (by simpa using l0)).trans x0
  have z0 := k1.cell 0
  have z1 := k1.cell 1
  have z2 := k1.cell 2
  simp at z0 z1 z2
  have l1 := k1.lt
  have l2 := k2.lt
  have l8 : h < W.heap.size := Nat.lt_of_lt_of_le l0 bW.size
  have hne0 : ¬ (Value.slice PA l.length pc).ownBlock = some h := fun e => (hv1 h e).2 rfl
  have hne2 : ¬ (Value.slice PA l.length pc).ownBlock = some w.heap.size := fun e => by have := h3 _ (hv1 _ e).1; omega
  have hne1 : ¬ (Value.slice PA l.length pc).ownBlock = some (w.heap.size + 1) := fun e => by have := h3 _ (hv1 _ e).1; omega
  have hS1 : Below W.heap.size W W.drew := (Below.refl _ _).drew
  have hS0 : Keep (fun g => (Value.slice PA l.length pc).ownBlock = some g) W W.drew := Keep.of_below hS1
  refine mix.region_D (fun w' => Keep (fun g => (Value.slice PA l.length pc).ownBlock = some g) W w') (fun j => decide (9 ≤ j)) (by kernel_rfl) ?_
  generalize W.drew = Wd at hS0 hS1 ⊢
  refine mix.D_take (i := 0) (v := ?_) rfl (by kernel_rfl) (by kernel_rfl) (fun _ _ _ h => h) (Or.inl ⟨by rfl, ?_⟩) hS0 ?_
  rotate_left
  · intro w' hSw
    have y0 := (hSw.cell (p := ⟨h, 0, none⟩) l8 hne0).trans y0
    have y1 := (hSw.cell (p := ⟨w.heap.size, 0, none⟩) l1 hne2).trans z0
    have y2 := (hSw.cell (p := ⟨w.heap.size, 1, none⟩) l1 hne2).trans z1
    have y3 := (hSw.cell (p := ⟨w.heap.size, 2, none⟩) l1 hne2).trans z2
    try simp only [List.getElem_toArray, List.getElem_cons_zero, List.getElem_cons_succ]
    go_simp
    exact rfl
  try simp only [Act.put, List.setIfInBounds_toArray, List.set_cons_zero, List.set_cons_succ, List.getElem_toArray, List.getElem_cons_zero, List.getElem_cons_succ]
  refine mix.D_take (i := 1) (v := ?_) rfl (by kernel_rfl) (by kernel_rfl) (fun _ _ _ h => h) (Or.inl ⟨by rfl, ?_⟩) hS0 ?_
  rotate_left
  · intro w' hSw
    have y0 := (hSw.cell (p := ⟨h, 0, none⟩) l8 hne0).trans y0
    have y1 := (hSw.cell (p := ⟨w.heap.size, 0, none⟩) l1 hne2).trans z0
    have y2 := (hSw.cell (p := ⟨w.heap.size, 1, none⟩) l1 hne2).trans z1
    have y3 := (hSw.cell (p := ⟨w.heap.size, 2, none⟩) l1 hne2).trans z2
    try simp only [List.getElem_toArray, List.getElem_cons_zero, List.getElem_cons_succ]
    go_simp
    exact rfl
  try simp only [Act.put, List.setIfInBounds_toArray, List.set_cons_zero, List.set_cons_succ, List.getElem_toArray, List.getElem_cons_zero, List.getElem_cons_succ]
  refine mix.D_take (i := 2) (v := ?_) rfl (by kernel_rfl) (by kernel_rfl) (fun _ _ _ h => h) (Or.inl ⟨by rfl, ?_⟩) hS0 ?_
  rotate_left
  · intro w' hSw
    have y0 := (hSw.cell (p := ⟨h, 0, none⟩) l8 hne0).trans y0
    have y1 := (hSw.cell (p := ⟨w.heap.size, 0, none⟩) l1 hne2).trans z0
    have y2 := (hSw.cell (p := ⟨w.heap.size, 1, none⟩) l1 hne2).trans z1
    have y3 := (hSw.cell (p := ⟨w.heap.size, 2, none⟩) l1 hne2).trans z2
    try simp only [List.getElem_toArray, List.getElem_cons_zero, List.getElem_cons_succ]
    go_simp
    exact rfl
  try simp only [Act.put, List.setIfInBounds_toArray, List.set_cons_zero, List.set_cons_succ, List.getElem_toArray, List.getElem_cons_zero, List.getElem_cons_succ]
  refine mix.D_take (i := 3) (v := ?_) rfl (by kernel_rfl) (by kernel_rfl) (fun _ _ _ h => h) (Or.inl ⟨by rfl, ?_⟩) hS0 ?_
  rotate_left
  · intro w' hSw
    have y0 := (hSw.cell (p := ⟨h, 0, none⟩) l8 hne0).trans y0
    have y1 := (hSw.cell (p := ⟨w.heap.size, 0, none⟩) l1 hne2).trans z0
    have y2 := (hSw.cell (p := ⟨w.heap.size, 1, none⟩) l1 hne2).trans z1
    have y3 := (hSw.cell (p := ⟨w.heap.size, 2, none⟩) l1 hne2).trans z2
    try simp only [List.getElem_toArray, List.getElem_cons_zero, List.getElem_cons_succ]
    go_simp
    exact rfl
  try simp only [Act.put, List.setIfInBounds_toArray, List.set_cons_zero, List.set_cons_succ, List.getElem_toArray, List.getElem_cons_zero, List.getElem_cons_succ]
  refine mix.D_take (i := 4) (v := ?_) rfl (by kernel_rfl) (by kernel_rfl) (fun _ _ _ h => h) (Or.inl ⟨by rfl, ?_⟩) hS0 ?_
  rotate_left
  · intro w' hSw
    have y0 := (hSw.cell (p := ⟨h, 0, none⟩) l8 hne0).trans y0
    have y1 := (hSw.cell (p := ⟨w.heap.size, 0, none⟩) l1 hne2).trans z0
    have y2 := (hSw.cell (p := ⟨w.heap.size, 1, none⟩) l1 hne2).trans z1
    have y3 := (hSw.cell (p := ⟨w.heap.size, 2, none⟩) l1 hne2).trans z2
    try simp only [List.getElem_toArray, List.getElem_cons_zero, List.getElem_cons_succ]
    go_simp
    exact rfl
  try simp only [Act.put, List.setIfInBounds_toArray, List.set_cons_zero, List.set_cons_succ, List.getElem_toArray, List.getElem_cons_zero, List.getElem_cons_succ]
  refine mix.D_take (i := 5) (v := ?_) rfl (by kernel_rfl) (by kernel_rfl) (fun _ _ _ h => h) (Or.inl ⟨by rfl, ?_⟩) hS0 ?_
  rotate_left
  · intro w' hSw
    have y0 := (hSw.cell (p := ⟨h, 0, none⟩) l8 hne0).trans y0
    have y1 := (hSw.cell (p := ⟨w.heap.size, 0, none⟩) l1 hne2).trans z0
    have y2 := (hSw.cell (p := ⟨w.heap.size, 1, none⟩) l1 hne2).trans z1
    have y3 := (hSw.cell (p := ⟨w.heap.size, 2, none⟩) l1 hne2).trans z2
    try simp only [List.getElem_toArray, List.getElem_cons_zero, List.getElem_cons_succ]
    go_simp
    exact rfl
  try simp only [Act.put, List.setIfInBounds_toArray, List.set_cons_zero, List.set_cons_succ, List.getElem_toArray, List.getElem_cons_zero, List.getElem_cons_succ]
  refine mix.D_op (k := 6) rfl rfl (by kernel_rfl) (fun K' hK => ?_)
  simp only [List.getElem_toArray, List.getElem_cons_zero, List.getElem_cons_succ]
  go_wp2_with fail
  have hb91 := bW.trans (hS1.mono bW.size)
  refine (copied_any lf es ks A c Q m _ ((hv.below hb91).more hb91.size) ((hk.below hb91).more hb91.size)).mono ?_
  rintro e wb1 ⟨⟨ylf, yes, yks, yA, yc, yQ, ym⟩, rfl, hy, hO1, hs1⟩
  have hbc : Below w.heap.size w wb1 := hb91.trans (hs1.mono hb91.size)
  have hOc := hO1.mono (G := fun g => w.heap.size + 2 ≤ g ∧ g < wb1.heap.size) fun g hg => ⟨by have h9 : Wd.heap.size ≤ g := hg.1; have h8 := hS0.size; omega, hg.2⟩
  have hb1 := hS0.seq hs1
  refine hK.out _ _ (fun _ => hb1) ?_
  clear hK K'
  try simp only [Act.put, List.setIfInBounds_toArray, List.set_cons_zero, List.set_cons_succ]
  refine mix.D_op (k := 7) rfl rfl (by kernel_rfl) (fun K' hK => ?_)
  simp only [List.getElem_toArray, List.getElem_cons_zero, List.getElem_cons_succ]
  go_wp2_with fail
  have hs2 : Below wb1.heap.size wb1 (wb1.alloc (.cells #[.bool ylf, .slice yA yes.length yc, .slice yQ yks.length ym] 60)) := (Below.refl _ _).alloc (Nat.le_refl _) _
  have hb2 := hb1.seq hs2
  refine hK.out _ _ (fun _ => hb2) ?_
  clear hK K'
  try simp only [Act.put, List.setIfInBounds_toArray, List.set_cons_zero, List.set_cons_succ]
  refine mix.D_op (k := 8) rfl rfl (by kernel_rfl) (fun K' hK => ?_)
  simp only [List.getElem_toArray, List.getElem_cons_zero, List.getElem_cons_succ]
  refine wp_put1 Try.underlying105 hi0 hz0 hz1 hz2 rfl (by decide) (.tmp 17) (.tmp 20) rfl (w := wb1) (v := .slice PA l.length pc) (n := l.length) (xs := cellsN l) (row_below ho hbc) rfl rfl (by intro u hu; simp at hu; rcases hu with rfl | rfl | rfl <;> rfl) rfl rfl (by omega) (by unfold maxLen; omega) ?_
  intro v9 wb3 ho9 hK9 hv9 hs3
  have hb3 : Keep (fun g => (Value.slice PA l.length pc).ownBlock = some g) W wb3 := hb1.trans hK9 (fun g hg _ => hg)
  obtain ⟨PA9, pc9, rfl, _, _, _⟩ := row_rdF ho9
  refine hK.out _ _ (fun _ => hb3) ?_
  clear hK K'
  try simp only [Act.put, List.setIfInBounds_toArray, List.set_cons_zero, List.set_cons_succ]
  refine mix.D_op (k := 9) rfl rfl (by kernel_rfl) (fun K' hK => ?_)
  simp only [List.getElem_toArray, List.getElem_cons_zero, List.getElem_cons_succ]
  go_wp2_with fail
  refine hK.out _ _ (fun h => by simp at h) ?_
  clear hK K'
  try simp only [Act.put, List.setIfInBounds_toArray, List.set_cons_zero, List.set_cons_succ]
  refine mix.D_op (k := 10) rfl rfl (by kernel_rfl) (fun K' hK => ?_)
  simp only [List.getElem_toArray, List.getElem_cons_zero, List.getElem_cons_succ]
  go_wp2_with fail
  refine hK.out _ _ (fun h => by simp at h) ?_
  clear hK K'
  try simp only [Act.put, List.setIfInBounds_toArray, List.set_cons_zero, List.set_cons_succ]
  refine mix.D_op (k := 11) rfl rfl (by kernel_rfl) (fun K' hK => ?_)
  simp only [List.getElem_toArray, List.getElem_cons_zero, List.getElem_cons_succ]
  have hput := Hp.put h2 h3 hb hv1 (by omega) hv2 hbc (w.heap.size + 2) ⟨by omega, by have := hs1.size; have := hS1.size; omega⟩ hOc hK9 ho9 hv9
  have kH := hK9.blk (Blk.below hb hbc hb.lt) hne0
  have z0' := kH.cell 0
  simp at z0'
  have g0 := kH.frozen 0
  have g1 := kH.lt
  have k9 := hK9.blk (k2.below (hS1.trans (hs1.mono hS1.size)) k2.lt) hne1
  go_wp2_with fail
  refine hK.out _ _ (fun h => by simp at h) ?_
  clear hK K'
  refine mix.D_done (by kernel_rfl) ?_ _
  obtain ⟨hH, hKp⟩ := hput
  have HY := vers.lay hy
  have hsz3 : wb3.heap.size = (wb3.setCell ⟨h, 0, none⟩ (.slice PA9 (l.length + 1) pc9)).heap.size := by simp
  have hsW := hb3.size
  have hH0 := hH
  have hneh : h ≠ w.heap.size + 1 := by omega
  have k5 : Blk (wb3.setCell ⟨h, 0, none⟩ (.slice PA9 (l.length + 1) pc9)) (w.heap.size + 1) 27 #[.int .u64 0, .int .i64 0, .int .i64 0, .int .i64 0] := (Below.heap_setCell _ _ _ _ (by simpa using fun e => hneh e.symm)).trans k9
  have y5 : (wb3.setCell ⟨h, 0, none⟩ (.slice PA9 (l.length + 1) pc9)).cell? ⟨h, 0, none⟩ = some (.slice PA9 (l.length + 1) pc9) := World.cell?_setCell_same' _ _ _ (by rw [z0']; rfl)
  have hnum := fun u => numbered_any l.length u (by omega)
  have e7 : IntKind.i64.wrap ((l.length : Int) + 1 - 1) = (l.length : Int) := by rw [show (l.length : Int) + 1 - 1 = (l.length : Int) by omega]; exact IntWalk.i64_in _ (by omega)
  generalize wb3.setCell ⟨h, 0, none⟩ (.slice PA9 (l.length + 1) pc9) = W6 at *
  have g6 : h < W6.heap.size := hH.lt h (.inl h2)
  go_wp2_with fail
  refine (hnum _).mono ?_
  rintro e w7 ⟨rfl, hb7⟩
  have k7 := k5.below hb7 k5.lt
  have f0 := k7.frozen 0
  have f1 := k7.frozen 1
  have f2 := k7.frozen 2
  have f3 := k7.frozen 3
  have c0 := k7.cell 0
  have c1 := k7.cell 1
  have c2 := k7.cell 2
  have c3 := k7.cell 3
  simp at c0 c1 c2 c3
  have l7 := k7.lt
  have hK7 := hKp.seq hb7
  have hH7 := hH.below hb7
  have s7 := hb7.size
  have hS6 := hH.lt
  have hHr := vers.lay (rfl : refOf l.length = refOf l.length)
  generalize hrr : refOf l.length = rr at hHr ⊢
  have hRR := vers.lay hrr
  clear hrr hHr hnum hH0 hK9 hv9 ho9 hH hKp hb7 hb1 hb2 hb3 hOc hO1 hy
  obtain ⟨rk, rg, ro, rn⟩ := rr
  go_wp2_with fail
  refine bodyPost_ret (v := .tuple #[(⟨rk, rg, ro, rn⟩ : R).val, .int .i64 0]) (by simp [results, Try.results163, go_sem, c0, c1, c2, c3]) rfl ?_
  have hy9 : (⟨ylf, yes, yks, yA, yc, yQ, ym⟩ : N).p = (lf, es.map pe, ks) := HY.out
  rw [hy9] at hH7
  refine ⟨four4_keep hK7 (by omega) _ _ _ _, ?_⟩
  rw [if_pos (by rw [List.length_map]; omega), List.length_map]
  refine ⟨by rw [hRR.out], ((hH7.four (g := w.heap.size + 1) (fun hg => ?_) _ _ _ _).mono (fun g hg => ?_) fun g hg => ?_)⟩
  · rcases hg with hg | hg
    · have := h3 _ hg; omega
    · omega
  · rcases hg with hg | hg
    · exact .inl hg
    · exact .inr ⟨by omega, by show g < (four4 w7 (w.heap.size + 1) (.int .u64 rk) (.int .i64 rg) (.int .i64 ro) (.int .i64 rn)).heap.size; rw [four4_size]; omega⟩
  · rcases hg with hg | hg
    · have := hS6 g (.inl hg); rw [four4_size]; omega
    · exact hg.2

theorem write_any (lf : Bool) (es : List E) (ks : List K) (A : Option Addr) (c : Nat) (Q : Option Addr) (m : Nat) (h : Nat) (S : Nat → Prop) (ns : List P3) (w : World) (hh : Hp w h S ns) (hv : Es w w.heap.size es A c) (hk : Ks w w.heap.size ks Q m) :
    Calls Try.prog 163 #[.pointer (some ⟨h, 0, none⟩), .agg #[.bool lf, .slice A es.length c, .slice Q ks.length m]] w (WPost w h S ns (lf, es.map pe, ks)) := by
  by_cases hn : ns.length < 20000
  · exact write_ok lf es ks A c Q m h S ns w hh hn hv hk
  · exact write_long lf es ks A c Q m h S ns w hh hn

end Go.Proofs.Ytnndohdiiglgmaa.trees
