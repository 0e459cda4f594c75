/- A heap's calls: numbered, NewHeap, Len, Read. -/
import Derived.Test.YtmbhfibldklecaaTrD
import Derived.Test.YtmbhfibldklecaaQuN
import Derived.Test.YtmbhfibldklecaaTrRef
import Derived.IntWalk


namespace Go.Proofs.Ytmbhfibldklecaa.trees
set_option linter.unusedVariables false
set_option linter.unusedSimpArgs false
open Go.RowKit Go.Proofs.Ytmbhfibldklecaa.base Go.Proofs.Ytmbhfibldklecaa.vers Go.Proofs.Ytmbhfibldklecaa.nodes Go.Proofs.Ytmbhfibldklecaa.quotas

/-- that of the page of that number -/
def refOf (i : Nat) : R := ⟨i + 1, ((i / 4 : Nat) : Int), ((i % 4 : Nat) : Int), 1⟩
/-- what lies under a reference -/
def pageAt (ns : List P3) (r : R) : Option P3 := if r.k ≠ 0 ∧ r = refOf (r.k - 1) then ns[r.k - 1]? else none
theorem pageAt_of (ns : List P3) (i : Nat) : pageAt ns (refOf i) = ns[i]? := by
  unfold pageAt
  rw [if_pos ⟨by simp [refOf], by simp [refOf]⟩]
  simp [refOf]
theorem below_drawn {B : Nat} {w w' : World} (h : Below B w w') (n : Nat) : Below B w (w'.drewN n) := ⟨h.os, h.tape, h.output, h.size, h.block⟩
theorem call_cls {P : Program} {f : FuncId} {args : Array Value} {v : Value} {W : World} {N : World → World} {n : World} (h1 : ∀ n, Below W.heap.size W (N n)) (h2 : ∀ w', Below W.heap.size W w' → ∃ n, w' = N n)
    (hc : Calls P f args (N n) fun e w' => e = .returned v ∧ Below (N n).heap.size (N n) w') : Calls P f args (N n) fun e w'' => e = .returned v ∧ ∃ m, w'' = N m :=
  hc.mono fun _ _ ⟨he, hb⟩ => ⟨he, h2 _ ((h1 n).trans (hb.mono (h1 n).size))⟩
/-- what Read leaves -/
def RPost (w : World) (a : Option P3) (e : Ending) (w' : World) : Prop := Below w.heap.size w w' ∧
  match a with
  | some x => ∃ y : N, e = .returned (.tuple #[y.val, .int .i64 0]) ∧ y.p = x ∧ OwnNF w' (fun g => w.heap.size ≤ g ∧ g < w'.heap.size) y
  | none => e = .returned (.tuple #[.agg #[.bool false, .slice none 0 0, .slice none 0 0], .int .i64 71])

set_option maxRecDepth 100000 in
set_option maxHeartbeats 2000000 in
theorem numbered_any (i : Nat) (w : World) (h : i < 1000000) :
    Calls Try.prog 150 #[.int .i64 (i : Int)] w fun e w' => e = .returned (refOf i).val ∧ Below w.heap.size w w' := by
  have h0 : (0 : Int) ≤ (i : Int) := by omega
  have h1 : (i : Int) < 1000000 := by omega
  have e1 : IntKind.u64.wrap (i : Int) = (i : Int) := by rw [IntKind.wrap_u64]; omega
  go_enter Try.func150, Try.ntmps150
  go_wp2_with fail
  refine bodyPost_ret (v := (refOf i).val) (by simp [results, Try.results150, go_sem, refOf]) rfl ⟨rfl, ?_⟩
  exact (Below.refl _ _).alloc (Nat.le_refl _) _

set_option maxRecDepth 100000 in
set_option maxHeartbeats 2000000 in
theorem newHeap_any (w : World) :
    Calls Try.prog 11 #[] w fun e w' => ∃ h, e = .returned (.pointer (some ⟨h, 0, none⟩)) ∧ w.heap.size ≤ h ∧ Hp w' h (fun g => g = h) [] ∧ Below w.heap.size w w' := by
  have hb : Below w.heap.size w (w.alloc (.cells #[.slice none 0 0] 102)) := (Below.refl _ _).alloc (Nat.le_refl _) _
  have hk := Blk.new w 102 #[.slice none 0 0]
  go_enter Try.func11, Try.ntmps11
  go_wp2_with fail
  go_ret
  exact ⟨_, rfl, Nat.le_refl _, ⟨.slice none 0 0, [], rfl, rfl, (fun g hg => by subst hg; exact hk.lt), hk, ⟨rfl, .inl ⟨rfl, rfl⟩⟩, (fun g hg => by cases hg), by simp, fun x hx => by cases hx⟩, hb⟩

set_option maxRecDepth 100000 in
set_option maxHeartbeats 2000000 in
theorem len_any (h : Nat) (S : Nat → Prop) (ns : List P3) (w : World) (hh : Hp w h S ns) :
    Calls Try.prog 22 #[.pointer (some ⟨h, 0, none⟩)] w fun e w' => e = .returned (.int .i64 (ns.length : Int)) ∧ w' = w := by
  obtain ⟨v, l, rfl, h2, h3, hk, ho, _⟩ := hh
  obtain ⟨A, c, rfl, _⟩ := row_rdF ho
  have x0 := hk.cell 0
  have l0 := hk.lt
  simp at x0
  rw [List.length_map]
  go_enter Try.func22, Try.ntmps22
  go_wp2_with fail
  go_ret
  exact ⟨rfl, rfl⟩

set_option maxRecDepth 100000 in
set_option maxHeartbeats 2000000 in
theorem read_far (r : R) (h : Nat) (S : Nat → Prop) (ns : List P3) (w : World) (hh : Hp w h S ns) (hr : r.fits) (hk : r.k = 0 ∨ ns.length < r.k) :
    Calls Try.prog 148 #[.pointer (some ⟨h, 0, none⟩), r.val] w (RPost w (pageAt ns r)) := by
  have hp : pageAt ns r = none := by
    unfold pageAt
    split
    · rename_i hc
      rw [List.getElem?_eq_none (by omega)]
    · rfl
  rw [hp]
  clear hp
  have hn := hh.len
  obtain ⟨v, l, rfl, h2, h3, hb, ho, _⟩ := hh
  obtain ⟨A, c, rfl, _⟩ := row_rdF ho
  rw [List.length_map] at hk hn
  have x0 := hb.cell 0
  have l0 := hb.lt
  simp at x0
  have e1 : IntKind.u64.wrap (l.length : Int) = (l.length : Int) := by rw [IntKind.wrap_u64]; omega
  obtain ⟨m, hm, hm2⟩ : ∃ m : Int, IntKind.u64.wrap ((r.k : Int) - 1) = m ∧ (l.length : Int) ≤ m := by
    refine ⟨_, rfl, ?_⟩
    rw [IntKind.wrap_u64]
    have := hr.1
    omega
  have d1 : decide ((l.length : Int) ≤ m) = true := decide_eq_true hm2
  obtain ⟨rk, rg, ro, rn⟩ := r
  go_enter Try.func148, Try.ntmps148
  go_wp2_with fail
  go_quiet (fail)
  go_wp2_with fail
  refine bodyPost_ret (v := .tuple #[.agg #[.bool false, .slice none 0 0, .slice none 0 0], .int .i64 71]) (by simp [results, Try.results148, go_sem]) rfl ⟨?_, rfl⟩
  exact three_below (below_drawn (((Below.refl _ _).alloc (Nat.le_refl _) _).alloc (by simp) _) _) (by omega) _ _ _

set_option maxRecDepth 100000 in
set_option maxHeartbeats 2000000 in
theorem read_other (i : Nat) (rg ro rn : Int) (h : Nat) (S : Nat → Prop) (ns : List P3) (w : World) (hh : Hp w h S ns) (hi : i < ns.length) (hr : (⟨i + 1, rg, ro, rn⟩ : R) ≠ refOf i) :
    Calls Try.prog 148 #[.pointer (some ⟨h, 0, none⟩), (⟨i + 1, rg, ro, rn⟩ : R).val] w (RPost w none) := by
  have hn := hh.len
  obtain ⟨v, l, rfl, h2, h3, hb, ho, hv1, _, hv2⟩ := hh
  obtain ⟨A, c, rfl, hlc, _, hrd⟩ := row_rdF ho
  rw [List.length_map] at hi hn
  have x0 := hb.cell 0
  have l0 := hb.lt
  simp at x0
  have e1 : IntKind.u64.wrap (l.length : Int) = (l.length : Int) := by rw [IntKind.wrap_u64]; omega
  have e2 : IntKind.u64.wrap ((i : Int) + 1 - 1) = (i : Int) := by rw [IntKind.wrap_u64]; omega
  have e3 : IntKind.i64.wrap (i : Int) = (i : Int) := IntWalk.i64_in _ (by omega)
  have hi9 : i < 1000000 := by omega
  have i0 : (0 : Int) ≤ (i : Int) := by omega
  have i1 : (i : Int) < (l.length : Int) := by omega
  have d1 : decide (l.length ≤ i) = false := decide_eq_false (by omega)
  have bW : Below w.heap.size w ((w.alloc (.cells #[.int .u64 ((i : Int) + 1), .int .i64 rg, .int .i64 ro, .int .i64 rn] 27)).alloc (.cells #[.bool false, .slice none 0 0, .slice none 0 0] 60)) := ((Below.refl _ _).alloc (Nat.le_refl _) _).alloc (by simp) _
  have k1 := (Blk.new w 27 #[.int .u64 ((i : Int) + 1), .int .i64 rg, .int .i64 ro, .int .i64 rn]).alloc (.cells #[.bool false, .slice none 0 0, .slice none 0 0] 60)
  have k2 := Blk.new (w.alloc (.cells #[.int .u64 ((i : Int) + 1), .int .i64 rg, .int .i64 ro, .int .i64 rn] 27)) 60 #[.bool false, .slice none 0 0, .slice none 0 0]
  rw [World.size_alloc] at k2
  go_enter Try.func148, Try.ntmps148
  go_wp2_with fail
  generalize (w.alloc (.cells #[.int .u64 ((i : Int) + 1), .int .i64 rg, .int .i64 ro, .int .i64 rn] 27)).alloc (.cells #[.bool false, .slice none 0 0, .slice none 0 0] 60) = W at *
  have y0 := (bW.cell (p := ⟨h, 0, none⟩) (by simpa using l0)).trans x0
  have z0 := k1.cell 0
  have z1 := k1.cell 1
  have z2 := k1.cell 2
  have z3 := k1.cell 3
  simp at z0 z1 z2 z3
  have l1 := k1.lt
  have l2 := k2.lt
  have qn : ∀ u : World, (binOp .neq 27 (.agg #[.int .u64 ((i : Int) + 1), .int .i64 rg, .int .i64 ro, .int .i64 rn]) (refOf i).val).run Try.prog u = .ok (.bool true) u := fun u => by
    have h := ref_neq ⟨i + 1, rg, ro, rn⟩ (refOf i) u
    rw [decide_eq_false hr] at h
    exact h
  obtain ⟨N, hN, hM⟩ := norms (fun w' => Below W.heap.size W w') _ (Below.refl _ _)
  have hne : Nonempty World := ⟨w⟩
  have q0 := fun n => ((hN n).cell (p := ⟨h, 0, none⟩) (by simp only; omega)).trans y0
  have q1 := fun n => ((hN n).cell (p := ⟨w.heap.size, 0, none⟩) (by simp only; omega)).trans z0
  have q2 := fun n => ((hN n).cell (p := ⟨w.heap.size, 1, none⟩) (by simp only; omega)).trans z1
  have q3 := fun n => ((hN n).cell (p := ⟨w.heap.size, 2, none⟩) (by simp only; omega)).trans z2
  have q4 := fun n => ((hN n).cell (p := ⟨w.heap.size, 3, none⟩) (by simp only; omega)).trans z3
  refine region_class N (by kernel_rfl) (by kernel_rfl) (hM _ ((Below.refl _ _).drew)) ?_
  repeat (go_big_quiet_step (first
    | (go_at_call 150; exact call_cls hN hM (numbered_any i _ hi9))))
  refine wpQuiet_nil ?_
  rintro _ ⟨n, rfl⟩
  have I9 := hN n
  generalize N n = w9 at I9 ⊢
  clear q0 q1 q2 q3 q4 hM hN N n hne
  have b9 := bW.trans (I9.mono bW.size)
  have k9 := k2.below I9 l2
  have f0 := k9.frozen 0
  have f1 := k9.frozen 1
  have f2 := k9.frozen 2
  have c0 := k9.cell 0
  have c1 := k9.cell 1
  have c2 := k9.cell 2
  simp at c0 c1 c2
  have l9 := k9.lt
  go_wp2_with fail
  refine bodyPost_ret (v := .tuple #[.agg #[.bool false, .slice none 0 0, .slice none 0 0], .int .i64 71]) (by simp [results, Try.results148, go_sem, c0, c1, c2]) rfl ⟨?_, rfl⟩
  exact three_below b9 (by omega) _ _ _

set_option maxRecDepth 100000 in
set_option maxHeartbeats 2000000 in
theorem read_ok (i : Nat) (rg ro rn : Int) (h : Nat) (S : Nat → Prop) (ns : List P3) (w : World) (hh : Hp w h S ns) (hi : i < ns.length) (hr : (⟨i + 1, rg, ro, rn⟩ : R) = refOf i) :
    Calls Try.prog 148 #[.pointer (some ⟨h, 0, none⟩), (⟨i + 1, rg, ro, rn⟩ : R).val] w (RPost w (some ns[i])) := by
  have HR := vers.lay hr
  clear hr
  have hn := hh.len
  obtain ⟨v, l, rfl, h2, h3, hb, ho, hv1, _, hv2⟩ := hh
  obtain ⟨A, c, rfl, hlc, _, hrd⟩ := row_rdF ho
  rw [List.length_map] at hi hn
  have x0 := hb.cell 0
  have l0 := hb.lt
  simp at x0
  have e1 : IntKind.u64.wrap (l.length : Int) = (l.length : Int) := by rw [IntKind.wrap_u64]; omega
  have e2 : IntKind.u64.wrap ((i : Int) + 1 - 1) = (i : Int) := by rw [IntKind.wrap_u64]; omega
  have e3 : IntKind.i64.wrap (i : Int) = (i : Int) := IntWalk.i64_in _ (by omega)
  have hi9 : i < 1000000 := by omega
  have i0 : (0 : Int) ≤ (i : Int) := by omega
  have i1 : (i : Int) < (l.length : Int) := by omega
  have d1 : decide (l.length ≤ i) = false := decide_eq_false (by omega)
  have bW : Below w.heap.size w ((w.alloc (.cells #[.int .u64 ((i : Int) + 1), .int .i64 rg, .int .i64 ro, .int .i64 rn] 27)).alloc (.cells #[.bool false, .slice none 0 0, .slice none 0 0] 60)) := ((Below.refl _ _).alloc (Nat.le_refl _) _).alloc (by simp) _
  have k1 := (Blk.new w 27 #[.int .u64 ((i : Int) + 1), .int .i64 rg, .int .i64 ro, .int .i64 rn]).alloc (.cells #[.bool false, .slice none 0 0, .slice none 0 0] 60)
  have k2 := Blk.new (w.alloc (.cells #[.int .u64 ((i : Int) + 1), .int .i64 rg, .int .i64 ro, .int .i64 rn] 27)) 60 #[.bool false, .slice none 0 0, .slice none 0 0]
  rw [World.size_alloc] at k2
  rw [List.getElem_map]
  have hx := hv2 l[i] (List.getElem_mem hi)
  have hxe := hx.1.es
  have hxk := hx.2.ks
  obtain ⟨e0, e1', e2'⟩ := cellsN_at l hi
  obtain ⟨gP, cap, e9, _, hgP, _⟩ := own_slice_form ho (by omega)
  injection e9 with e91 _ e92
  subst e91 e92
  have p0 := (ho.cellAt (i * 3) (by omega)).trans (by simpa only [Nat.mul_comm] using e0)
  have p1 := (ho.cellAt (i * 3 + 1) (by omega)).trans (by simpa only [Nat.mul_comm] using e1')
  have p2 := (ho.cellAt (i * 3 + 2) (by omega)).trans (by simpa only [Nat.mul_comm] using e2')
  clear e0 e1' e2' hx
  generalize l[i] = x at hxe hxk p0 p1 p2 ⊢
  obtain ⟨xlf, xes, xks, xA, xc, xQ, xm⟩ := x
  simp only at hxe hxk p0 p1 p2
  go_enter Try.func148, Try.ntmps148
  go_wp2_with fail
  generalize (w.alloc (.cells #[.int .u64 ((i : Int) + 1), .int .i64 rg, .int .i64 ro, .int .i64 rn] 27)).alloc (.cells #[.bool false, .slice none 0 0, .slice none 0 0] 60) = W at *
  have y0 := (bW.cell (p := ⟨h, 0, none⟩) (by simpa using l0)).trans x0
  have z0 := k1.cell 0
  have z1 := k1.cell 1
  have z2 := k1.cell 2
  have z3 := k1.cell 3
  simp at z0 z1 z2 z3
  have l1 := k1.lt
  have l2 := k2.lt
  have qn : ∀ u : World, (binOp .neq 27 (.agg #[.int .u64 ((i : Int) + 1), .int .i64 rg, .int .i64 ro, .int .i64 rn]) (refOf i).val).run Try.prog u = .ok (.bool false) u := fun u => by
    have h := ref_neq ⟨i + 1, rg, ro, rn⟩ (refOf i) u
    rw [decide_eq_true HR.out] at h
    exact h
  obtain ⟨N, hN, hM⟩ := norms (fun w' => Below W.heap.size W w') _ (Below.refl _ _)
  have hne : Nonempty World := ⟨w⟩
  have q0 := fun n => ((hN n).cell (p := ⟨h, 0, none⟩) (by simp only; omega)).trans y0
  have q1 := fun n => ((hN n).cell (p := ⟨w.heap.size, 0, none⟩) (by simp only; omega)).trans z0
  have q2 := fun n => ((hN n).cell (p := ⟨w.heap.size, 1, none⟩) (by simp only; omega)).trans z1
  have q3 := fun n => ((hN n).cell (p := ⟨w.heap.size, 2, none⟩) (by simp only; omega)).trans z2
  have q4 := fun n => ((hN n).cell (p := ⟨w.heap.size, 3, none⟩) (by simp only; omega)).trans z3
  refine region_class N (by kernel_rfl) (by kernel_rfl) (hM _ ((Below.refl _ _).drew)) ?_
  repeat (go_big_quiet_step (first
    | (go_at_call 150; exact call_cls hN hM (numbered_any i _ hi9))))
  refine wpQuiet_nil ?_
  rintro _ ⟨n, rfl⟩
  have I9 := hN n
  generalize N n = w9 at I9 ⊢
  clear q0 q1 q2 q3 q4 hM hN N n hne
  have b9 := bW.trans (I9.mono bW.size)
  have k9 := k2.below I9 l2
  have l9 := k9.lt
  have y0 := (b9.cell (p := ⟨h, 0, none⟩) (by simpa using l0)).trans x0
  have p0 := (b9.cell (p := ⟨gP, i * 3, none⟩) (by simpa using hgP)).trans p0
  have p1 := (b9.cell (p := ⟨gP, i * 3 + 1, none⟩) (by simpa using hgP)).trans p1
  have p2 := (b9.cell (p := ⟨gP, i * 3 + 2, none⟩) (by simpa using hgP)).trans p2
  have i3 : (l.length : Int) ≤ 140737488355328 := by omega
  have hl9 : h < w9.heap.size := by have := b9.size; omega
  have hg9 : gP < w9.heap.size := by have := b9.size; omega
  have hc := copied_any xlf xes xks xA xc xQ xm w9 ((hxe.below b9).more b9.size) ((hxk.below b9).more b9.size)
  clear qn hb ho hv1 hv2 hrd hxe hxk
  go_wp2_with fail
  refine hc.mono ?_
  rintro e w1 ⟨y, rfl, hy, hO, hb1⟩
  obtain ⟨ylf, yes, yks, yA, yc, yQ, ym⟩ := y
  have k1 := k9.below hb1 l9
  have f0 := k1.frozen 0
  have f1 := k1.frozen 1
  have f2 := k1.frozen 2
  have c0 := k1.cell 0
  have c1 := k1.cell 1
  have c2 := k1.cell 2
  simp at c0 c1 c2
  have l1 := k1.lt
  have b1 := b9.trans (hb1.mono b9.size)
  have s9 := b9.size
  clear hc p0 p1 p2 y0
  go_wp2_with fail
  refine bodyPost_ret (v := .tuple #[(⟨ylf, yes, yks, yA, yc, yQ, ym⟩ : N).val, .int .i64 0]) (by simp [results, Try.results148, go_sem, c0, c1, c2]) rfl ⟨?_, ⟨ylf, yes, yks, yA, yc, yQ, ym⟩, rfl, hy, ?_⟩
  · exact three_below b1 (by omega) _ _ _
  · have hsz := three_size w1 (w.heap.size + 1) (.bool ylf) (.slice yA yes.length yc) (.slice yQ yks.length ym)
    exact (hO.agree fun g hg => three_heap _ _ _ _ _ _ (by omega)).mono fun g hg => ⟨by omega, by have h9 : g < w1.heap.size := hg.2; rw [← hsz] at h9; exact h9⟩

theorem read_any (r : R) (h : Nat) (S : Nat → Prop) (ns : List P3) (w : World) (hh : Hp w h S ns) (hr : r.fits) :
    Calls Try.prog 148 #[.pointer (some ⟨h, 0, none⟩), r.val] w (RPost w (pageAt ns r)) := by
  by_cases hk : r.k = 0 ∨ ns.length < r.k
  · exact read_far r h S ns w hh hr hk
  · obtain ⟨rk, rg, ro, rn⟩ := r
    simp only at hk
    obtain ⟨i, rfl⟩ : ∃ i, rk = i + 1 := ⟨rk - 1, by omega⟩
    have hi : i < ns.length := by omega
    by_cases he : (⟨i + 1, rg, ro, rn⟩ : R) = refOf i
    · have hp : pageAt ns ⟨i + 1, rg, ro, rn⟩ = some ns[i] := by rw [he, pageAt_of, List.getElem?_eq_getElem hi]
      rw [hp]
      exact read_ok i rg ro rn h S ns w hh hi he
    · have hp : pageAt ns ⟨i + 1, rg, ro, rn⟩ = none := by
        unfold pageAt
        rw [if_neg]
        rintro ⟨_, e⟩
        exact he (by simpa using e)
      rw [hp]
      exact read_other i rg ro rn h S ns w hh hi he

end Go.Proofs.Ytmbhfibldklecaa.trees
