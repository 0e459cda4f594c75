/- Places in order: cmp.Or, the closure of overlap, slices.SortFunc, slices.Clone. -/
import Derived.Test.YthmamlghmagmkaaSgD
import Derived.Test.YthmamlghmagmkaaShelfS
import Derived.Shelf.SlSortCmp.NoneTotal
import Derived.WalkSpells
import Derived.Lib.SliceRun


namespace Go.Proofs.Ythmamlghmagmkaa.segs
set_option linter.unusedVariables false
set_option linter.unusedSimpArgs false
open Go.RowKit Go.Shelf Go.Proofs.Ythmamlghmagmkaa.base Go.Proofs.Ythmamlghmagmkaa.trees Go.Proofs.Ythmamlghmagmkaa.powers Go.Proofs.Ythmamlghmagmkaa.mediums Go.Lib

def orI (x y : Int) : Int := if x = 0 then y else x

set_option maxRecDepth 100000 in
set_option maxHeartbeats 4000000 in
theorem or_ok (x y : Int) (b : Nat) (w : World) (h0 : w.cell? ⟨b, 0, none⟩ = some (.int .i64 x)) (h1 : w.cell? ⟨b, 1, none⟩ = some (.int .i64 y)) :
    Calls Try.prog 193 #[.slice (some ⟨b, 0, none⟩) 2 2] w fun e w' => e = .returned (.int .i64 (orI x y)) ∧ w' = w := by
  obtain ⟨z, hz⟩ : ∃ z, orI x y = z := ⟨_, rfl⟩
  have HZ := powers.lay hz
  rw [hz]
  clear hz
  go_enter Try.func193, Try.ntmps193
  go_wp2_with fail
  go_loopw [8] (fun i wr => ∃ j : Nat, j ≤ 2 ∧ i = .int .i64 (j : Int) ∧ wr = w ∧ Hid ((1 ≤ j → x = 0) ∧ (2 ≤ j → y = 0))) (fun i _ => 2 - (RowKit.intOf i).toNat)
  case atStart => exact ⟨0, Nat.zero_le _, rfl, rfl, powers.lay ⟨fun h => by omega, fun h => by omega⟩⟩
  case round =>
    obtain ⟨j, hj, rfl, rfl, HH⟩ := hrel
    rcases (show j = 0 ∨ j = 1 ∨ j = 2 by omega) with rfl | rfl | rfl
    · by_cases hx : x = 0
      · subst hx
        go_wp2_with fail
        exact ⟨⟨1, by omega, by go_num, trivial, powers.lay ⟨fun _ => by first | rfl | trivial, fun h => by omega⟩⟩, by simp [RowKit.intOf]⟩
      · have d0 : decide (x = 0) = false := decide_eq_false hx
        have d1 : (x == 0) = false := by simp [hx]
        have HR := powers.lay (show x = z by rw [← HZ.out]; unfold orI; rw [if_neg hx])
        clear hx
        go_wp2_with fail
        go_ret
        exact ⟨by rw [← HR.out]; rfl, rfl⟩
    · have hx := HH.out.1 (by omega)
      subst hx
      by_cases hy : y = 0
      · subst hy
        go_wp2_with fail
        exact ⟨⟨2, by omega, by go_num, trivial, powers.lay ⟨fun _ => by first | rfl | trivial, fun _ => by first | rfl | trivial⟩⟩, by simp [RowKit.intOf]⟩
      · have d0 : decide (y = 0) = false := decide_eq_false hy
        have d1 : (y == 0) = false := by simp [hy]
        have HR := powers.lay (show y = z by rw [← HZ.out]; unfold orI; rw [if_pos rfl])
        clear hy
        go_wp2_with fail
        go_ret
        exact ⟨by rw [← HR.out]; rfl, rfl⟩
    · have hx := HH.out.1 (by omega)
      have hy := HH.out.2 (by omega)
      subst hx hy
      have HR := powers.lay (show 0 = z by rw [← HZ.out]; unfold orI; rw [if_pos rfl])
      go_wp2_with fail
      go_ret
      exact ⟨by rw [← HR.out]; rfl, rfl⟩

theorem cfT_eq (x y : T3) : orI (Lib.compareInt x.a y.a) (Lib.compareInt x.b y.b) = cfT x y := by
  unfold orI Lib.compareInt cfT
  repeat' split
  all_goals omega
theorem swoT : Go.Sort.SWO (ltOf cfT) where
  irrefl x := by unfold ltOf; rw [decide_eq_false]; rw [cfT_lt]; omega
  trans x y z h1 h2 := by unfold ltOf at *; simp only [decide_eq_true_eq, cfT_lt] at *; omega
  ntrans x y z h1 h2 := by unfold ltOf at *; simp only [decide_eq_false_iff_not, cfT_lt] at *; omega

set_option maxRecDepth 100000 in
set_option maxHeartbeats 4000000 in
theorem closure_ok (x y : T3) (W : World) : Calls Try.prog 192 #[.agg x.cells.toArray, .agg y.cells.toArray] W fun e w' => e = .returned (.int .i64 (cfT x y)) ∧ ∃ q os', w' = Go.Sort.grow (W.drewN q) os' := by
  obtain ⟨xa, xb, xc⟩ := x
  obtain ⟨ya, yb, yc⟩ := y
  have hcon := fun a b W' => Try.cmp_Compare_ints a b W'
  have HE := powers.lay (cfT_eq ⟨xa, xb, xc⟩ ⟨ya, yb, yc⟩)
  have kx := (Blk.new W 95 #[.int .i64 xa, .int .i64 xb, .int .i64 xc]).alloc (.cells #[.int .i64 ya, .int .i64 yb, .int .i64 yc] 95)
  have ky := Blk.new (W.alloc (.cells #[.int .i64 xa, .int .i64 xb, .int .i64 xc] 95)) 95 #[.int .i64 ya, .int .i64 yb, .int .i64 yc]
  have hg : ∀ os, (Go.Sort.grow ((W.alloc (.cells #[.int .i64 xa, .int .i64 xb, .int .i64 xc] 95)).alloc (.cells #[.int .i64 ya, .int .i64 yb, .int .i64 yc] 95)).drew os) = Go.Sort.grow (W.drewN 1) (#[.cells #[.int .i64 xa, .int .i64 xb, .int .i64 xc] 95] ++ #[.cells #[.int .i64 ya, .int .i64 yb, .int .i64 yc] 95] ++ os) := fun os => by
    rw [Go.Sort.alloc_eq_grow, Go.Sort.alloc_eq_grow, Go.Sort.grow_grow, Go.Sort.drew_grow, Go.Sort.grow_grow]; rfl
  have HG := powers.lay hg
  clear hg
  rw [World.size_alloc] at ky
  obtain ⟨W2, hW2⟩ : ∃ W2, (W.alloc (.cells #[.int .i64 xa, .int .i64 xb, .int .i64 xc] 95)).alloc (.cells #[.int .i64 ya, .int .i64 yb, .int .i64 yc] 95) = W2 := ⟨_, rfl⟩
  have HW2 := powers.lay hW2
  rw [hW2] at kx ky
  have lx := kx.lt
  have ly := ky.lt
  obtain ⟨x0, x1, _⟩ := kx.c3
  obtain ⟨y0, y1, _⟩ := ky.c3
  show Calls _ _ #[.agg #[.int .i64 xa, .int .i64 xb, .int .i64 xc], .agg #[.int .i64 ya, .int .i64 yb, .int .i64 yc]] _ _
  go_enter Try.func192, Try.ntmps192
  go_upto_region 1 with (fail)
  have hS0 : Below W2.heap.size W2 W2.drew := (Below.refl _ _).drew
  refine mix.region_D (fun w' => Below W2.heap.size W2 w') (fun j => decide (10 ≤ j)) (by kernel_rfl) ?_
  generalize hwd : W2.drew = wd at hS0 ⊢
  have HWD := powers.lay hwd
  clear hwd hW2
  refine mix.D_takeT (i := 0) (v := ?_) rfl (by kernel_rfl) (by kernel_rfl) (fun _ _ _ h => h) (Or.inl ⟨by first | rfl | simp [Region.wanted, yielded], ?_⟩) hS0 ?_
  rotate_left
  · intro w' hSw
    have z0 := (hSw.cell (p := ⟨W.heap.size, 0, none⟩) lx).trans x0
    have z1 := (hSw.cell (p := ⟨W.heap.size, 1, none⟩) lx).trans x1
    have z2 := (hSw.cell (p := ⟨W.heap.size + 1, 0, none⟩) ly).trans y0
    have z3 := (hSw.cell (p := ⟨W.heap.size + 1, 1, none⟩) ly).trans y1
    try simp only [List.getElem_toArray, List.getElem_cons_zero, List.getElem_cons_succ]
    go_simp
    exact rfl
  try simp only [Act.put, List.setIfInBounds_toArray, List.set_cons_zero, List.set_cons_succ, List.getElem_toArray, List.getElem_cons_zero, List.getElem_cons_succ]
  refine mix.D_takeT (i := 1) (v := ?_) rfl (by kernel_rfl) (by kernel_rfl) (fun _ _ _ h => h) (Or.inl ⟨by first | rfl | simp [Region.wanted, yielded], ?_⟩) hS0 ?_
  rotate_left
  · intro w' hSw
    have z0 := (hSw.cell (p := ⟨W.heap.size, 0, none⟩) lx).trans x0
    have z1 := (hSw.cell (p := ⟨W.heap.size, 1, none⟩) lx).trans x1
    have z2 := (hSw.cell (p := ⟨W.heap.size + 1, 0, none⟩) ly).trans y0
    have z3 := (hSw.cell (p := ⟨W.heap.size + 1, 1, none⟩) ly).trans y1
    try simp only [List.getElem_toArray, List.getElem_cons_zero, List.getElem_cons_succ]
    go_simp
    exact rfl
  try simp only [Act.put, List.setIfInBounds_toArray, List.set_cons_zero, List.set_cons_succ, List.getElem_toArray, List.getElem_cons_zero, List.getElem_cons_succ]
  refine mix.D_takeT (i := 2) (v := ?_) rfl (by kernel_rfl) (by kernel_rfl) (fun _ _ _ h => h) (Or.inl ⟨by first | rfl | simp [Region.wanted, yielded], ?_⟩) hS0 ?_
  rotate_left
  · intro w' hSw
    have z0 := (hSw.cell (p := ⟨W.heap.size, 0, none⟩) lx).trans x0
    have z1 := (hSw.cell (p := ⟨W.heap.size, 1, none⟩) lx).trans x1
    have z2 := (hSw.cell (p := ⟨W.heap.size + 1, 0, none⟩) ly).trans y0
    have z3 := (hSw.cell (p := ⟨W.heap.size + 1, 1, none⟩) ly).trans y1
    try simp only [List.getElem_toArray, List.getElem_cons_zero, List.getElem_cons_succ]
    go_simp
    exact rfl
  try simp only [Act.put, List.setIfInBounds_toArray, List.set_cons_zero, List.set_cons_succ, List.getElem_toArray, List.getElem_cons_zero, List.getElem_cons_succ]
  refine mix.D_takeT (i := 3) (v := ?_) rfl (by kernel_rfl) (by kernel_rfl) (fun _ _ _ h => h) (Or.inl ⟨by first | rfl | simp [Region.wanted, yielded], ?_⟩) hS0 ?_
  rotate_left
  · intro w' hSw
    have z0 := (hSw.cell (p := ⟨W.heap.size, 0, none⟩) lx).trans x0
    have z1 := (hSw.cell (p := ⟨W.heap.size, 1, none⟩) lx).trans x1
    have z2 := (hSw.cell (p := ⟨W.heap.size + 1, 0, none⟩) ly).trans y0
    have z3 := (hSw.cell (p := ⟨W.heap.size + 1, 1, none⟩) ly).trans y1
    try simp only [List.getElem_toArray, List.getElem_cons_zero, List.getElem_cons_succ]
    go_simp
    exact rfl
  try simp only [Act.put, List.setIfInBounds_toArray, List.set_cons_zero, List.set_cons_succ, List.getElem_toArray, List.getElem_cons_zero, List.getElem_cons_succ]
  refine mix.D_takeT (i := 5) (v := ?_) rfl (by kernel_rfl) (by kernel_rfl) (fun _ _ _ h => h) (Or.inl ⟨by first | rfl | simp [Region.wanted, yielded], ?_⟩) hS0 ?_
  rotate_left
  · intro w' hSw
    have z0 := (hSw.cell (p := ⟨W.heap.size, 0, none⟩) lx).trans x0
    have z1 := (hSw.cell (p := ⟨W.heap.size, 1, none⟩) lx).trans x1
    have z2 := (hSw.cell (p := ⟨W.heap.size + 1, 0, none⟩) ly).trans y0
    have z3 := (hSw.cell (p := ⟨W.heap.size + 1, 1, none⟩) ly).trans y1
    try simp only [List.getElem_toArray, List.getElem_cons_zero, List.getElem_cons_succ]
    go_simp
    exact rfl
  try simp only [Act.put, List.setIfInBounds_toArray, List.set_cons_zero, List.set_cons_succ, List.getElem_toArray, List.getElem_cons_zero, List.getElem_cons_succ]
  refine mix.D_takeT (i := 6) (v := ?_) rfl (by kernel_rfl) (by kernel_rfl) (fun _ _ _ h => h) (Or.inl ⟨by first | rfl | simp [Region.wanted, yielded], ?_⟩) hS0 ?_
  rotate_left
  · intro w' hSw
    have z0 := (hSw.cell (p := ⟨W.heap.size, 0, none⟩) lx).trans x0
    have z1 := (hSw.cell (p := ⟨W.heap.size, 1, none⟩) lx).trans x1
    have z2 := (hSw.cell (p := ⟨W.heap.size + 1, 0, none⟩) ly).trans y0
    have z3 := (hSw.cell (p := ⟨W.heap.size + 1, 1, none⟩) ly).trans y1
    try simp only [List.getElem_toArray, List.getElem_cons_zero, List.getElem_cons_succ]
    go_simp
    exact rfl
  try simp only [Act.put, List.setIfInBounds_toArray, List.set_cons_zero, List.set_cons_succ, List.getElem_toArray, List.getElem_cons_zero, List.getElem_cons_succ]
  refine mix.D_takeT (i := 7) (v := ?_) rfl (by kernel_rfl) (by kernel_rfl) (fun _ _ _ h => h) (Or.inl ⟨by first | rfl | simp [Region.wanted, yielded], ?_⟩) hS0 ?_
  rotate_left
  · intro w' hSw
    have z0 := (hSw.cell (p := ⟨W.heap.size, 0, none⟩) lx).trans x0
    have z1 := (hSw.cell (p := ⟨W.heap.size, 1, none⟩) lx).trans x1
    have z2 := (hSw.cell (p := ⟨W.heap.size + 1, 0, none⟩) ly).trans y0
    have z3 := (hSw.cell (p := ⟨W.heap.size + 1, 1, none⟩) ly).trans y1
    try simp only [List.getElem_toArray, List.getElem_cons_zero, List.getElem_cons_succ]
    go_simp
    exact rfl
  try simp only [Act.put, List.setIfInBounds_toArray, List.set_cons_zero, List.set_cons_succ, List.getElem_toArray, List.getElem_cons_zero, List.getElem_cons_succ]
  refine mix.D_takeT (i := 8) (v := ?_) rfl (by kernel_rfl) (by kernel_rfl) (fun _ _ _ h => h) (Or.inl ⟨by first | rfl | simp [Region.wanted, yielded], ?_⟩) hS0 ?_
  rotate_left
  · intro w' hSw
    have z0 := (hSw.cell (p := ⟨W.heap.size, 0, none⟩) lx).trans x0
    have z1 := (hSw.cell (p := ⟨W.heap.size, 1, none⟩) lx).trans x1
    have z2 := (hSw.cell (p := ⟨W.heap.size + 1, 0, none⟩) ly).trans y0
    have z3 := (hSw.cell (p := ⟨W.heap.size + 1, 1, none⟩) ly).trans y1
    try simp only [List.getElem_toArray, List.getElem_cons_zero, List.getElem_cons_succ]
    go_simp
    exact rfl
  try simp only [Act.put, List.setIfInBounds_toArray, List.set_cons_zero, List.set_cons_succ, List.getElem_toArray, List.getElem_cons_zero, List.getElem_cons_succ]
  refine mix.D_op (k := 4) rfl rfl (by kernel_rfl) (fun K' hK => ?_)
  simp only [List.getElem_toArray, List.getElem_cons_zero, List.getElem_cons_succ]
  have c1 := hcon xa ya wd
  go_wp2_with fail
  refine c1.mono ?_
  rintro e w2 ⟨rfl, rfl⟩
  refine hK.out _ _ (fun _ => hS0) ?_
  clear hK K'
  try simp only [Act.put, List.setIfInBounds_toArray, List.set_cons_zero, List.set_cons_succ]
  refine mix.D_op (k := 9) rfl rfl (by kernel_rfl) (fun K' hK => ?_)
  simp only [List.getElem_toArray, List.getElem_cons_zero, List.getElem_cons_succ]
  have c2 := hcon xb yb w2
  go_wp2_with fail
  refine c2.mono ?_
  rintro e w3 ⟨rfl, rfl⟩
  refine hK.out _ _ (fun _ => hS0) ?_
  clear hK K'
  try simp only [Act.put, List.setIfInBounds_toArray, List.set_cons_zero, List.set_cons_succ]
  refine mix.D_op (k := 10) rfl rfl (by kernel_rfl) (fun K' hK => ?_)
  simp only [List.getElem_toArray, List.getElem_cons_zero, List.getElem_cons_succ]
  go_wp2_with fail
  refine hK.out _ _ (fun h => by simp at h) ?_
  clear hK K'
  try simp only [Act.put, List.setIfInBounds_toArray, List.set_cons_zero, List.set_cons_succ]
  refine mix.D_op (k := 11) rfl rfl (by kernel_rfl) (fun K' hK => ?_)
  simp only [List.getElem_toArray, List.getElem_cons_zero, List.getElem_cons_succ]
  have kL := Blk.new w3 3 #[.int .i64 (Lib.compareInt xa ya), .int .i64 (Lib.compareInt xb yb)]
  have c3 := or_ok (Lib.compareInt xa ya) (Lib.compareInt xb yb) w3.heap.size _ (kL.cell 0) (kL.cell 1)
  go_wp2_with fail
  refine c3.mono ?_
  rintro e w4 ⟨rfl, rfl⟩
  refine hK.out _ _ (fun h => by simp at h) ?_
  clear hK K'
  try simp only [Act.put, List.setIfInBounds_toArray, List.set_cons_zero, List.set_cons_succ]
  refine mix.D_op (k := 12) rfl rfl (by kernel_rfl) (fun K' hK => ?_)
  simp only [List.getElem_toArray, List.getElem_cons_zero, List.getElem_cons_succ]
  go_wp2_with fail
  refine hK.out _ _ (fun h => by simp at h) ?_
  clear hK K'
  try simp only [Act.put, List.setIfInBounds_toArray, List.set_cons_zero, List.set_cons_succ]
  refine mix.D_done (by kernel_rfl) ?_ _
  try simp only [Act.put, List.setIfInBounds_toArray, List.set_cons_zero, List.set_cons_succ, List.getElem_toArray, List.getElem_cons_zero, List.getElem_cons_succ]
  go_wp2_with fail
  go_ret
  have hfin := HG.out #[.cells #[.int .i64 (Lib.compareInt xa ya), .int .i64 (Lib.compareInt xb yb)] 3]
  rw [HW2.out, HWD.out] at hfin
  exact ⟨by rw [← HE.out]; rfl, 1, _, (Go.Sort.alloc_eq_grow _ _).trans hfin⟩

/-- a row of places as the sort's own row -/
theorem flat_cells (ps : List T3) : (Go.Sort.flatK T3.cells 3 ps.toArray).toList = cellsJ ps := by
  apply List.ext_getElem?
  intro t
  rcases Nat.lt_or_ge t (ps.length * 3) with h | h
  · have h3 : t / 3 < ps.length := by omega
    obtain ⟨c0, c1, c2⟩ := cellsJ_at ps h3
    have e1 := Go.Sort.get_flatK T3.cells 3 ps.toArray t (by simpa using h)
    have e2 : (Go.Sort.flatK T3.cells 3 ps.toArray).toList[t]? = some (Go.Sort.flatK T3.cells 3 ps.toArray)[t]! := by
      rw [Array.getElem?_toList, Array.getElem?_eq_getElem (by simpa using h), getElem!_pos _ t (by simpa using h)]
    rw [e2, e1]
    have e3 : ps.toArray[t / 3]! = ps[t / 3] := by rw [getElem!_pos _ _ (by simpa using h3)]; simp
    rw [e3]
    have ht : t = t / 3 * 3 + t % 3 := by omega
    have hm : t % 3 = 0 ∨ t % 3 = 1 ∨ t % 3 = 2 := by omega
    rcases hm with hm | hm | hm
    · rw [hm] at ht ⊢; rw [show (cellsJ ps)[t]? = (cellsJ ps)[t / 3 * 3]? from by rw [← Nat.add_zero (t / 3 * 3), ← ht], c0]; rfl
    · rw [hm] at ht ⊢; rw [show (cellsJ ps)[t]? = (cellsJ ps)[t / 3 * 3 + 1]? from by rw [← ht], c1]; rfl
    · rw [hm] at ht ⊢; rw [show (cellsJ ps)[t]? = (cellsJ ps)[t / 3 * 3 + 2]? from by rw [← ht], c2]; rfl
  · rw [List.getElem?_eq_none (by simpa using h), List.getElem?_eq_none (by rw [cellsJ_len]; exact h)]
theorem holds_of_row {w : World} {lo blk n cap : Nat} {t : TypeId} {ps : List T3} (h : w.ownsRow lo t 3 (.slice (some ⟨blk, 0, none⟩) n cap) n (cellsJ ps)) (hn : n = ps.length) : Go.Sort.HoldsK T3.cells 3 w blk 0 ps.toArray := fun j hj => by
  subst hn
  have hj' : j < ps.length * 3 := by simpa using hj
  have e : (Go.Sort.flatK T3.cells 3 ps.toArray)[j]! = (Go.Sort.flatK T3.cells 3 ps.toArray).toList[j]'(by simpa using hj) := by rw [getElem!_pos _ j hj]; simp
  refine ⟨?_, by rw [Nat.zero_add]; exact h.frozenAt j⟩
  rw [Nat.zero_add, h.cellAt j hj', e, List.getElem?_eq_getElem (by rw [cellsJ_len]; exact hj')]
  simp only [flat_cells, id]
theorem below_sort {B blk off m : Nat} {w : World} {d : Array T3} {os : Array Obj} (hB : B ≤ blk) (hs : B ≤ w.heap.size) : Below B w (sortWorldK T3.cells 3 w blk off m d os) := by
  refine ⟨rfl, rfl, rfl, size_sortWorldK_c _ _ _ _ _ _ _ _, fun k hk => ?_⟩
  unfold sortWorldK Go.Sort.putRowK Go.Sort.putRow Go.Sort.mapBlock Go.Sort.grow Go.Sort.ahead
  simp only
  rw [Array.getElem?_append_left (by simp; omega), Array.getElem?_modify, if_neg (by omega)]
theorem at3_arr (d : Array T3) {i : Nat} (hi : i < d.size) : d[i]! = at3 d.toList i := by rw [getElem!_pos _ i hi, at3_eq (by simpa using hi)]; simp

set_option maxRecDepth 100000 in
set_option maxHeartbeats 4000000 in
theorem cloneP_any (A : Option Addr) (n c : Nat) (xs : List Value) (F : Nat → Prop) (w : World) (hx : xs.length = n * 3) (hr : RdF w F A xs) (hA : A = none → n = 0) (h1 : ∀ u ∈ xs, u.oneCell' = true) (hn : n * 24 ≤ 140737488355328) :
    Calls Try.prog 190 #[.slice A n c] w fun e w' => ∃ v', e = .returned v' ∧ w'.ownsRow w.heap.size 95 3 v' n xs ∧ Below w.heap.size w w' := by
  obtain ⟨i0, hi, hz0, hz1, hz2⟩ := @info_parts _ _ _ _ _ infoPl
  have q : ∀ (w : World) (a : Option Addr) (n c n' c' : Nat), (binOp .eql 82 (.slice a n c) (.slice none n' c')).run Try.prog w = .ok (.bool a.isNone) w := fun w a n c n' c' => Lib.run_eql_slice_nil w _ _ a n c n' c' Try.underlying82
  cases A with
  | none =>
    obtain rfl := hA rfl
    obtain rfl : xs = [] := List.eq_nil_of_length_eq_zero (by omega)
    clear hx hr hA h1 hn hi hz0 hz1 hz2
    go_enter Try.func190, Try.ntmps190
    go_wp2
    go_ret
    exact ⟨_, rfl, ⟨rfl, .inl ⟨rfl, rfl⟩⟩, Below.refl _ _⟩
  | some ad =>
    have hnews : ∀ j u, xs[j]? = some u → (w.alloc (.cells #[] 95)).cell? (ad.add j) = some u := fun j u hj => by
      obtain ⟨b, off, e, _, hc⟩ := hr j u hj
      cases e
      rw [add_plain, World.cell?_alloc_lt _ _ _ (World.block_lt_of_cell? w _ hc)]
      exact hc
    have HN := powers.lay hnews
    have HX := powers.lay hx
    have H1 := powers.lay h1
    clear hr hA hnews hx h1
    go_enter Try.func190, Try.ntmps190
    go_wp2_with (at_builtin; refine wpList_append_own _ rfl _ _ 82 rfl w.heap.size 95 i0 _ 3 24 Try.underlying82 hi hz0 hz1 hz2 rfl (by decide) _ _ _ rfl (World.ownsRow_made w #[] 0 (Nat.le_refl _) (Nat.zero_le _) rfl) ad n c xs rfl ?qc1 ?qc2 ?qc3 ?qc4 ?qc5 ?qc6 ?_)
    case qc1 => exact HX.out
    case qc2 => exact HN.out
    case qc3 => exact H1.out
    case qc4 => unfold maxLen; omega
    case qc5 => omega
    case qc6 => simp
    intro v' w1 hown hgrow _
    go_wp2
    go_ret
    exact ⟨v', rfl, by simpa using hown, ((Below.refl _ w).alloc (Nat.le_refl _) _).grown hgrow (by simp) (by intro k hk; simp [Value.ownBlock] at hk; omega)⟩

set_option maxRecDepth 100000 in
set_option maxHeartbeats 4000000 in
theorem cloneA_any (A : Option Addr) (n c : Nat) (xs : List Value) (F : Nat → Prop) (w : World) (hx : xs.length = n * 3) (hr : RdF w F A xs) (hA : A = none → n = 0) (h1 : ∀ u ∈ xs, u.oneCell' = true) (hn : n * 24 ≤ 140737488355328) :
    Calls Try.prog 160 #[.slice A n c] w fun e w' => ∃ v', e = .returned v' ∧ w'.ownsRow w.heap.size 184 3 v' n xs ∧ Below w.heap.size w w' := by
  obtain ⟨i0, hi, hz0, hz1, hz2⟩ := @info_parts _ _ _ _ _ infoAc
  have q : ∀ (w : World) (a : Option Addr) (n c n' c' : Nat), (binOp .eql 104 (.slice a n c) (.slice none n' c')).run Try.prog w = .ok (.bool a.isNone) w := fun w a n c n' c' => Lib.run_eql_slice_nil w _ _ a n c n' c' Try.underlying104
  cases A with
  | none =>
    obtain rfl := hA rfl
    obtain rfl : xs = [] := List.eq_nil_of_length_eq_zero (by omega)
    clear hx hr hA h1 hn hi hz0 hz1 hz2
    go_enter Try.func160, Try.ntmps160
    go_wp2
    go_ret
    exact ⟨_, rfl, ⟨rfl, .inl ⟨rfl, rfl⟩⟩, Below.refl _ _⟩
  | some ad =>
    have hnews : ∀ j u, xs[j]? = some u → (w.alloc (.cells #[] 184)).cell? (ad.add j) = some u := fun j u hj => by
      obtain ⟨b, off, e, _, hc⟩ := hr j u hj
      cases e
      rw [add_plain, World.cell?_alloc_lt _ _ _ (World.block_lt_of_cell? w _ hc)]
      exact hc
    have HN := powers.lay hnews
    have HX := powers.lay hx
    have H1 := powers.lay h1
    clear hr hA hnews hx h1
    go_enter Try.func160, Try.ntmps160
    go_wp2_with (at_builtin; refine wpList_append_own _ rfl _ _ 104 rfl w.heap.size 184 i0 _ 3 24 Try.underlying104 hi hz0 hz1 hz2 rfl (by decide) _ _ _ rfl (World.ownsRow_made w #[] 0 (Nat.le_refl _) (Nat.zero_le _) rfl) ad n c xs rfl ?qc1 ?qc2 ?qc3 ?qc4 ?qc5 ?qc6 ?_)
    case qc1 => exact HX.out
    case qc2 => exact HN.out
    case qc3 => exact H1.out
    case qc4 => unfold maxLen; omega
    case qc5 => omega
    case qc6 => simp
    intro v' w1 hown hgrow _
    go_wp2
    go_ret
    exact ⟨v', rfl, by simpa using hown, ((Below.refl _ w).alloc (Nat.le_refl _) _).grown hgrow (by simp) (by intro k hk; simp [Value.ownBlock] at hk; omega)⟩

end Go.Proofs.Ythmamlghmagmkaa.segs
