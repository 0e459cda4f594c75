/- Places in order: cmp.Or, the closure of overlap, slices.SortFunc, slices.Clone. -/
import Derived.Test.YtoenkkbcpafanaaSgD
import Derived.Test.YtoenkkbcpafanaaShelfS
import Derived.Shelf.SlSortCmp.NoneTotal
import Derived.WalkSpells
import Derived.Lib.SliceRun
import Derived.Deep.CutRange


namespace Go.Proofs.Ytoenkkbcpafanaa.segs
set_option linter.unusedVariables false
set_option linter.unusedSimpArgs false
open Go.RowKit Go.Shelf Go.Proofs.Ytoenkkbcpafanaa.base Go.Proofs.Ytoenkkbcpafanaa.trees Go.Proofs.Ytoenkkbcpafanaa.powers Go.Proofs.Ytoenkkbcpafanaa.mediums Go.Lib

def orI (x y : Int) : Int := if x = 0 then y else x

set_option maxRecDepth 100000 in
set_option maxHeartbeats 4000000 in
theorem or_ok (x y : Int) (b : Nat) (w : World) (h0 : w.cell? ⟨b, 0, none⟩ = some (.int .i64 x)) (h1 : w.cell? ⟨b, 1, none⟩ = some (.int .i64 y)) :
    Calls Try.prog 240 #[.slice (some ⟨b, 0, none⟩) 2 2] w fun e w' => e = .returned (.int .i64 (orI x y)) ∧ w' = w := by
  obtain ⟨z, hz⟩ : ∃ z, orI x y = z := ⟨_, rfl⟩
  have HZ := powers.lay hz
  rw [hz]
  clear hz
  go_enter Try.func240, Try.ntmps240
  go_wp2_with fail
  go_loopw [8] (fun i wr => ∃ j : Nat, j ≤ 2 ∧ i = .int .i64 (j : Int) ∧ wr = w ∧ Hid ((1 ≤ j → x = 0) ∧ (2 ≤ j → y = 0))) (fun i _ => 2 - (RowKit.intOf i).toNat)
  case atStart => exact ⟨0, Nat.zero_le _, rfl, rfl, powers.lay ⟨fun h => by omega, fun h => by omega⟩⟩
  case round =>
    obtain ⟨j, hj, rfl, rfl, HH⟩ := hrel
    rcases (show j = 0 ∨ j = 1 ∨ j = 2 by omega) with rfl | rfl | rfl
    · by_cases hx : x = 0
      · subst hx
        go_wp2_with fail
        exact ⟨⟨1, by omega, by go_num, trivial, powers.lay ⟨fun _ => by first | rfl | trivial, fun h => by omega⟩⟩, by simp [RowKit.intOf]⟩
      · have d0 : decide (x = 0) = false := decide_eq_false hx
        have d1 : (x == 0) = false := by simp [hx]
        have HR := powers.lay (show x = z by rw [← HZ.out]; unfold orI; rw [if_neg hx])
        clear hx
        go_wp2_with fail
        go_ret
        exact ⟨by rw [← HR.out]; rfl, rfl⟩
    · have hx := HH.out.1 (by omega)
      subst hx
      by_cases hy : y = 0
      · subst hy
        go_wp2_with fail
        exact ⟨⟨2, by omega, by go_num, trivial, powers.lay ⟨fun _ => by first | rfl | trivial, fun _ => by first | rfl | trivial⟩⟩, by simp [RowKit.intOf]⟩
      · have d0 : decide (y = 0) = false := decide_eq_false hy
        have d1 : (y == 0) = false := by simp [hy]
        have HR := powers.lay (show y = z by rw [← HZ.out]; unfold orI; rw [if_pos rfl])
        clear hy
        go_wp2_with fail
        go_ret
        exact ⟨by rw [← HR.out]; rfl, rfl⟩
    · have hx := HH.out.1 (by omega)
      have hy := HH.out.2 (by omega)
      subst hx hy
      have HR := powers.lay (show 0 = z by rw [← HZ.out]; unfold orI; rw [if_pos rfl])
      go_wp2_with fail
      go_ret
      exact ⟨by rw [← HR.out]; rfl, rfl⟩

theorem cfT_eq (x y : T3) : orI (Lib.compareInt x.a y.a) (Lib.compareInt x.b y.b) = cfT x y := by
  unfold orI Lib.compareInt cfT
  repeat' split
  all_goals omega
theorem swoT : Go.Sort.SWO (ltOf cfT) where
  irrefl x := by unfold ltOf; rw [decide_eq_false]; rw [cfT_lt]; omega
  trans x y z h1 h2 := by unfold ltOf at *; simp only [decide_eq_true_eq, cfT_lt] at *; omega
  ntrans x y z h1 h2 := by unfold ltOf at *; simp only [decide_eq_false_iff_not, cfT_lt] at *; omega

set_option maxRecDepth 100000 in
set_option maxHeartbeats 4000000 in
theorem closure_ok (x y : T3) (W : World) : Calls Try.prog 239 #[.agg x.cells.toArray, .agg y.cells.toArray] W fun e w' => e = .returned (.int .i64 (cfT x y)) ∧ ∃ q os', w' = Go.Sort.grow (W.drewN q) os' := by
  obtain ⟨xa, xb, xc⟩ := x
  obtain ⟨ya, yb, yc⟩ := y
  have hcon := fun a b W' => Try.cmp_Compare_ints a b W'
  have HE := powers.lay (cfT_eq ⟨xa, xb, xc⟩ ⟨ya, yb, yc⟩)
  have kx := (Blk.new W 189 #[.int .i64 xa, .int .i64 xb, .int .i64 xc]).alloc (.cells #[.int .i64 ya, .int .i64 yb, .int .i64 yc] 189)
  have ky := Blk.new (W.alloc (.cells #[.int .i64 xa, .int .i64 xb, .int .i64 xc] 189)) 189 #[.int .i64 ya, .int .i64 yb, .int .i64 yc]
  have hg : ∀ os, (Go.Sort.grow ((W.alloc (.cells #[.int .i64 xa, .int .i64 xb, .int .i64 xc] 189)).alloc (.cells #[.int .i64 ya, .int .i64 yb, .int .i64 yc] 189)).drew os) = Go.Sort.grow (W.drewN 1) (#[.cells #[.int .i64 xa, .int .i64 xb, .int .i64 xc] 189] ++ #[.cells #[.int .i64 ya, .int .i64 yb, .int .i64 yc] 189] ++ os) := fun os => by
    rw [Go.Sort.alloc_eq_grow, Go.Sort.alloc_eq_grow, Go.Sort.grow_grow, Go.Sort.drew_grow, Go.Sort.grow_grow]; rfl
  have HG := powers.lay hg
  clear hg
  rw [World.size_alloc] at ky
  obtain ⟨W2, hW2⟩ : ∃ W2, (W.alloc (.cells #[.int .i64 xa, .int .i64 xb, .int .i64 xc] 189)).alloc (.cells #[.int .i64 ya, .int .i64 yb, .int .i64 yc] 189) = W2 := ⟨_, rfl⟩
  have HW2 := powers.lay hW2
  rw [hW2] at kx ky
  have lx := kx.lt
  have ly := ky.lt
  obtain ⟨x0, x1, _⟩ := kx.c3
  obtain ⟨y0, y1, _⟩ := ky.c3
  show Calls _ _ #[.agg #[.int .i64 xa, .int .i64 xb, .int .i64 xc], .agg #[.int .i64 ya, .int .i64 yb, .int .i64 yc]] _ _
  go_enter Try.func239, Try.ntmps239
  go_upto_region 1 with (fail)
  have hS0 : Below W2.heap.size W2 W2.drew := (Below.refl _ _).drew
  refine mix.region_D (fun w' => Below W2.heap.size W2 w') (fun j => decide (10 ≤ j)) (by kernel_rfl) ?_
  generalize hwd : W2.drew = wd at hS0 ⊢
  have HWD := powers.lay hwd
  clear hwd hW2
  refine mix.D_takeT (i := 0) (v := ?_) rfl (by kernel_rfl) (by kernel_rfl) (fun _ _ _ h => h) (Or.inl ⟨by first | rfl | simp [Region.wanted, yielded], ?_⟩) hS0 ?_
  rotate_left
  · intro w' hSw
    have z0 := (hSw.cell (p := ⟨W.heap.size, 0, none⟩) lx).trans x0
    have z1 := (hSw.cell (p := ⟨W.heap.size, 1, none⟩) lx).trans x1
    have z2 := (hSw.cell (p := ⟨W.heap.size + 1, 0, none⟩) ly).trans y0
    have z3 := (hSw.cell (p := ⟨W.heap.size + 1, 1, none⟩) ly).trans y1
    try simp only [List.getElem_toArray, List.getElem_cons_zero, List.getElem_cons_succ]
    go_simp
    exact rfl
  try simp only [Act.put, List.setIfInBounds_toArray, List.set_cons_zero, List.set_cons_succ, List.getElem_toArray, List.getElem_cons_zero, List.getElem_cons_succ]
  refine mix.D_takeT (i := 1) (v := ?_) rfl (by kernel_rfl) (by kernel_rfl) (fun _ _ _ h => h) (Or.inl ⟨by first | rfl | simp [Region.wanted, yielded], ?_⟩) hS0 ?_
  rotate_left
  · intro w' hSw
    have z0 := (hSw.cell (p := ⟨W.heap.size, 0, none⟩) lx).trans x0
    have z1 := (hSw.cell (p := ⟨W.heap.size, 1, none⟩) lx).trans x1
    have z2 := (hSw.cell (p := ⟨W.heap.size + 1, 0, none⟩) ly).trans y0
    have z3 := (hSw.cell (p := ⟨W.heap.size + 1, 1, none⟩) ly).trans y1
    try simp only [List.getElem_toArray, List.getElem_cons_zero, List.getElem_cons_succ]
    go_simp
    exact rfl
  try simp only [Act.put, List.setIfInBounds_toArray, List.set_cons_zero, List.set_cons_succ, List.getElem_toArray, List.getElem_cons_zero, List.getElem_cons_succ]
  refine mix.D_takeT (i := 2) (v := ?_) rfl (by kernel_rfl) (by kernel_rfl) (fun _ _ _ h => h) (Or.inl ⟨by first | rfl | simp [Region.wanted, yielded], ?_⟩) hS0 ?_
  rotate_left
  · intro w' hSw
    have z0 := (hSw.cell (p := ⟨W.heap.size, 0, none⟩) lx).trans x0
    have z1 := (hSw.cell (p := ⟨W.heap.size, 1, none⟩) lx).trans x1
    have z2 := (hSw.cell (p := ⟨W.heap.size + 1, 0, none⟩) ly).trans y0
    have z3 := (hSw.cell (p := ⟨W.heap.size + 1, 1, none⟩) ly).trans y1
    try simp only [List.getElem_toArray, List.getElem_cons_zero, List.getElem_cons_succ]
    go_simp
    exact rfl
  try simp only [Act.put, List.setIfInBounds_toArray, List.set_cons_zero, List.set_cons_succ, List.getElem_toArray, List.getElem_cons_zero, List.getElem_cons_succ]
  refine mix.D_takeT (i := 3) (v := ?_) rfl (by kernel_rfl) (by kernel_rfl) (fun _ _ _ h => h) (Or.inl ⟨by first | rfl | simp [Region.wanted, yielded], ?_⟩) hS0 ?_
  rotate_left
  · intro w' hSw
    have z0 := (hSw.cell (p := ⟨W.heap.size, 0, none⟩) lx).trans x0
    have z1 := (hSw.cell (p := ⟨W.heap.size, 1, none⟩) lx).trans x1
    have z2 := (hSw.cell (p := ⟨W.heap.size + 1, 0, none⟩) ly).trans y0
    have z3 := (hSw.cell (p := ⟨W.heap.size + 1, 1, none⟩) ly).trans y1
    try simp only [List.getElem_toArray, List.getElem_cons_zero, List.getElem_cons_succ]
    go_simp
    exact rfl
  try simp only [Act.put, List.setIfInBounds_toArray, List.set_cons_zero, List.set_cons_succ, List.getElem_toArray, List.getElem_cons_zero, List.getElem_cons_succ]
  refine mix.D_takeT (i := 5) (v := ?_) rfl (by kernel_rfl) (by kernel_rfl) (fun _ _ _ h => h) (Or.inl ⟨by first | rfl | simp [Region.wanted, yielded], ?_⟩) hS0 ?_
  rotate_left
  · intro w' hSw
    have z0 := (hSw.cell (p := ⟨W.heap.size, 0, none⟩) lx).trans x0
    have z1 := (hSw.cell (p := ⟨W.heap.size, 1, none⟩) lx).trans x1
    have z2 := (hSw.cell (p := ⟨W.heap.size + 1, 0, none⟩) ly).trans y0
    have z3 := (hSw.cell (p := ⟨W.heap.size + 1, 1, none⟩) ly).trans y1
    try simp only [List.getElem_toArray, List.getElem_cons_zero, List.getElem_cons_succ]
    go_simp
    exact rfl
  try simp only [Act.put, List.setIfInBounds_toArray, List.set_cons_zero, List.set_cons_succ, List.getElem_toArray, List.getElem_cons_zero, List.getElem_cons_succ]
  refine mix.D_takeT (i := 6) (v := ?_) rfl (by kernel_rfl) (by kernel_rfl) (fun _ _ _ h => h) (Or.inl ⟨by first | rfl | simp [Region.wanted, yielded], ?_⟩) hS0 ?_
  rotate_left
  · intro w' hSw
    have z0 := (hSw.cell (p := ⟨W.heap.size, 0, none⟩) lx).trans x0
    have z1 := (hSw.cell (p := ⟨W.heap.size, 1, none⟩) lx).trans x1
    have z2 := (hSw.cell (p := ⟨W.heap.size + 1, 0, none⟩) ly).trans y0
    have z3 := (hSw.cell (p := ⟨W.heap.size + 1, 1, none⟩) ly).trans y1
    try simp only [List.getElem_toArray, List.getElem_cons_zero, List.getElem_cons_succ]
    go_simp
    exact rfl
  try simp only [Act.put, List.setIfInBounds_toArray, List.set_cons_zero, List.set_cons_succ, List.getElem_toArray, List.getElem_cons_zero, List.getElem_cons_succ]
  refine mix.D_takeT (i := 7) (v := ?_) rfl (by kernel_rfl) (by kernel_rfl) (fun _ _ _ h => h) (Or.inl ⟨by first | rfl | simp [Region.wanted, yielded], ?_⟩) hS0 ?_
  rotate_left
  · intro w' hSw
    have z0 := (hSw.cell (p := ⟨W.heap.size, 0, none⟩) lx).trans x0
    have z1 := (hSw.cell (p := ⟨W.heap.size, 1, none⟩) lx).trans x1
    have z2 := (hSw.cell (p := ⟨W.heap.size + 1, 0, none⟩) ly).trans y0
    have z3 := (hSw.cell (p := ⟨W.heap.size + 1, 1, none⟩) ly).trans y1
    try simp only [List.getElem_toArray, List.getElem_cons_zero, List.getElem_cons_succ]
    go_simp
    exact rfl
  try simp only [Act.put, List.setIfInBounds_toArray, List.set_cons_zero, List.set_cons_succ, List.getElem_toArray, List.getElem_cons_zero, List.getElem_cons_succ]
  refine mix.D_takeT (i := 8) (v := ?_) rfl (by kernel_rfl) (by kernel_rfl) (fun _ _ _ h => h) (Or.inl ⟨by first | rfl | simp [Region.wanted, yielded], ?_⟩) hS0 ?_
  rotate_left
  · intro w' hSw
    have z0 := (hSw.cell (p := ⟨W.heap.size, 0, none⟩) lx).trans x0
    have z1 := (hSw.cell (p := ⟨W.heap.size, 1, none⟩) lx).trans x1
    have z2 := (hSw.cell (p := ⟨W.heap.size + 1, 0, none⟩) ly).trans y0
    have z3 := (hSw.cell (p := ⟨W.heap.size + 1, 1, none⟩) ly).trans y1
    try simp only [List.getElem_toArray, List.getElem_cons_zero, List.getElem_cons_succ]
    go_simp
    exact rfl
  try simp only [Act.put, List.setIfInBounds_toArray, List.set_cons_zero, List.set_cons_succ, List.getElem_toArray, List.getElem_cons_zero, List.getElem_cons_succ]
  refine mix.D_op (k := 4) rfl rfl (by kernel_rfl) (fun K' hK => ?_)
  simp only [List.getElem_toArray, List.getElem_cons_zero, List.getElem_cons_succ]
  have c1 := hcon xa ya wd
  go_wp2_with fail
  refine c1.mono ?_
  rintro e w2 ⟨rfl, rfl⟩
  refine hK.out _ _ (fun _ => hS0) ?_
  clear hK K'
  try simp only [Act.put, List.setIfInBounds_toArray, List.set_cons_zero, List.set_cons_succ]
  refine mix.D_op (k := 9) rfl rfl (by kernel_rfl) (fun K' hK => ?_)
  simp only [List.getElem_toArray, List.getElem_cons_zero, List.getElem_cons_succ]
  have c2 := hcon xb yb w2
  go_wp2_with fail
  refine c2.mono ?_
  rintro e w3 ⟨rfl, rfl⟩
  refine hK.out _ _ (fun _ => hS0) ?_
  clear hK K'
  try simp only [Act.put, List.setIfInBounds_toArray, List.set_cons_zero, List.set_cons_succ]
  refine mix.D_op (k := 10) rfl rfl (by kernel_rfl) (fun K' hK => ?_)
  simp only [List.getElem_toArray, List.getElem_cons_zero, List.getElem_cons_succ]
  go_wp2_with fail
  refine hK.out _ _ (fun h => by simp at h) ?_
  clear hK K'
  try simp only [Act.put, List.setIfInBounds_toArray, List.set_cons_zero, List.set_cons_succ]
  refine mix.D_op (k := 11) rfl rfl (by kernel_rfl) (fun K' hK => ?_)
  simp only [List.getElem_toArray, List.getElem_cons_zero, List.getElem_cons_succ]
  have kL := Blk.new w3 3 #[.int .i64 (Lib.compareInt xa ya), .int .i64 (Lib.compareInt xb yb)]
  have c3 := or_ok (Lib.compareInt xa ya) (Lib.compareInt xb yb) w3.heap.size _ (kL.cell 0) (kL.cell 1)
  go_wp2_with fail
  refine c3.mono ?_
  rintro e w4 ⟨rfl, rfl⟩
  refine hK.out _ _ (fun h => by simp at h) ?_
  clear hK K'
  try simp only [Act.put, List.setIfInBounds_toArray, List.set_cons_zero, List.set_cons_succ]
  refine mix.D_op (k := 12) rfl rfl (by kernel_rfl) (fun K' hK => ?_)
  simp only [List.getElem_toArray, List.getElem_cons_zero, List.getElem_cons_succ]
  go_wp2_with fail
  refine hK.out _ _ (fun h => by simp at h) ?_
  clear hK K'
  try simp only [Act.put, List.setIfInBounds_toArray, List.set_cons_zero, List.set_cons_succ]
  refine mix.D_done (by kernel_rfl) ?_ _
  try simp only [Act.put, List.setIfInBounds_toArray, List.set_cons_zero, List.set_cons_succ, List.getElem_toArray, List.getElem_cons_zero, List.getElem_cons_succ]
  go_wp2_with fail
  go_ret
  have hfin := HG.out #[.cells #[.int .i64 (Lib.compareInt xa ya), .int .i64 (Lib.compareInt xb yb)] 3]
  rw [HW2.out, HWD.out] at hfin
  exact ⟨by rw [← HE.out]; rfl, 1, _, (Go.Sort.alloc_eq_grow _ _).trans hfin⟩

/-- a row of places as the sort's own row -/
theorem flat_cells (ps : List T3) : (Go.Sort.flatK T3.cells 3 ps.toArray).toList = cellsJ ps := by
  apply List.ext_getElem?
  intro t
  rcases Nat.lt_or_ge t (ps.length * 3) with h | h
  · have h3 : t / 3 < ps.length := by omega
    obtain ⟨c0, c1, c2⟩ := cellsJ_at ps h3
    have e1 := Go.Sort.get_flatK T3.cells 3 ps.toArray t (by simpa using h)
    have e2 : (Go.Sort.flatK T3.cells 3 ps.toArray).toList[t]? = some (Go.Sort.flatK T3.cells 3 ps.toArray)[t]! := by
      rw [Array.getElem?_toList, Array.getElem?_eq_getElem (by simpa using h), getElem!_pos _ t (by simpa using h)]
    rw [e2, e1]
    have e3 : ps.toArray[t / 3]! = ps[t / 3] := by rw [getElem!_pos _ _ (by simpa using h3)]; simp
    rw [e3]
    have ht : t = t / 3 * 3 + t % 3 := by omega
    have hm : t % 3 = 0 ∨ t % 3 = 1 ∨ t % 3 = 2 := by omega
    rcases hm with hm | hm | hm
    · rw [hm] at ht ⊢; rw [show (cellsJ ps)[t]? = (cellsJ ps)[t / 3 * 3]? from by rw [← Nat.add_zero (t / 3 * 3), ← ht], c0]; rfl
    · rw [hm] at ht ⊢; rw [show (cellsJ ps)[t]? = (cellsJ ps)[t / 3 * 3 + 1]? from by rw [← ht], c1]; rfl
    · rw [hm] at ht ⊢; rw [show (cellsJ ps)[t]? = (cellsJ ps)[t / 3 * 3 + 2]? from by rw [← ht], c2]; rfl
  · rw [List.getElem?_eq_none (by simpa using h), List.getElem?_eq_none (by rw [cellsJ_len]; exact h)]
theorem holds_of_row {w : World} {lo blk n cap : Nat} {t : TypeId} {ps : List T3} (h : w.ownsRow lo t 3 (.slice (some ⟨blk, 0, none⟩) n cap) n (cellsJ ps)) (hn : n = ps.length) : Go.Sort.HoldsK T3.cells 3 w blk 0 ps.toArray := fun j hj => by
  subst hn
  have hj' : j < ps.length * 3 := by simpa using hj
  have e : (Go.Sort.flatK T3.cells 3 ps.toArray)[j]! = (Go.Sort.flatK T3.cells 3 ps.toArray).toList[j]'(by simpa using hj) := by rw [getElem!_pos _ j hj]; simp
  refine ⟨?_, by rw [Nat.zero_add]; exact h.frozenAt j⟩
  rw [Nat.zero_add, h.cellAt j hj', e, List.getElem?_eq_getElem (by rw [cellsJ_len]; exact hj')]
  simp only [flat_cells, id]
theorem below_sort {B blk off m : Nat} {w : World} {d : Array T3} {os : Array Obj} (hB : B ≤ blk) (hs : B ≤ w.heap.size) : Below B w (sortWorldK T3.cells 3 w blk off m d os) := by
  refine ⟨rfl, rfl, rfl, size_sortWorldK_c _ _ _ _ _ _ _ _, fun k hk => ?_⟩
  unfold sortWorldK Go.Sort.putRowK Go.Sort.putRow Go.Sort.mapBlock Go.Sort.grow Go.Sort.ahead
  simp only
  rw [Array.getElem?_append_left (by simp; omega), Array.getElem?_modify, if_neg (by omega)]
theorem at3_arr (d : Array T3) {i : Nat} (hi : i < d.size) : d[i]! = at3 d.toList i := by rw [getElem!_pos _ i hi, at3_eq (by simpa using hi)]; simp

set_option maxRecDepth 100000 in
set_option maxHeartbeats 4000000 in
theorem cloneP_any (A : Option Addr) (n c : Nat) (xs : List Value) (F : Nat → Prop) (w : World) (hx : xs.length = n * 3) (hr : RdF w F A xs) (hA : A = none → n = 0) (h1 : ∀ u ∈ xs, u.oneCell' = true) (hn : n * 24 ≤ 140737488355328) :
    Calls Try.prog 237 #[.slice A n c] w fun e w' => ∃ v', e = .returned v' ∧ w'.ownsRow w.heap.size 189 3 v' n xs ∧ Below w.heap.size w w' := by
  obtain ⟨i0, hi, hz0, hz1, hz2⟩ := @info_parts _ _ _ _ _ infoPl
  have q : ∀ (w : World) (a : Option Addr) (n c n' c' : Nat), (binOp .eql 68 (.slice a n c) (.slice none n' c')).run Try.prog w = .ok (.bool a.isNone) w := fun w a n c n' c' => Lib.run_eql_slice_nil w _ _ a n c n' c' Try.underlying68
  cases A with
  | none =>
    obtain rfl := hA rfl
    obtain rfl : xs = [] := List.eq_nil_of_length_eq_zero (by omega)
    clear hx hr hA h1 hn hi hz0 hz1 hz2
    go_enter Try.func237, Try.ntmps237
    go_wp2
    go_ret
    exact ⟨_, rfl, ⟨rfl, .inl ⟨rfl, rfl⟩⟩, Below.refl _ _⟩
  | some ad =>
    have hnews : ∀ j u, xs[j]? = some u → (w.alloc (.cells #[] 189)).cell? (ad.add j) = some u := fun j u hj => by
      obtain ⟨b, off, e, _, hc⟩ := hr j u hj
      cases e
      rw [add_plain, World.cell?_alloc_lt _ _ _ (World.block_lt_of_cell? w _ hc)]
      exact hc
    have HN := powers.lay hnews
    have HX := powers.lay hx
    have H1 := powers.lay h1
    clear hr hA hnews hx h1
    go_enter Try.func237, Try.ntmps237
    go_wp2_with (at_builtin; refine wpList_append_own _ rfl _ _ 68 rfl w.heap.size 189 i0 _ 3 24 Try.underlying68 hi hz0 hz1 hz2 rfl (by decide) _ _ _ rfl (World.ownsRow_made w #[] 0 (Nat.le_refl _) (Nat.zero_le _) rfl) ad n c xs rfl ?qc1 ?qc2 ?qc3 ?qc4 ?qc5 ?qc6 ?_)
    case qc1 => exact HX.out
    case qc2 => exact HN.out
    case qc3 => exact H1.out
    case qc4 => unfold maxLen; omega
    case qc5 => omega
    case qc6 => simp
    intro v' w1 hown hgrow _
    go_wp2
    go_ret
    exact ⟨v', rfl, by simpa using hown, ((Below.refl _ w).alloc (Nat.le_refl _) _).grown hgrow (by simp) (by intro k hk; simp [Value.ownBlock] at hk; omega)⟩

set_option maxRecDepth 100000 in
set_option maxHeartbeats 4000000 in
theorem cloneA_any (A : Option Addr) (n c : Nat) (xs : List Value) (F : Nat → Prop) (w : World) (hx : xs.length = n * 3) (hr : RdF w F A xs) (hA : A = none → n = 0) (h1 : ∀ u ∈ xs, u.oneCell' = true) (hn : n * 24 ≤ 140737488355328) :
    Calls Try.prog 204 #[.slice A n c] w fun e w' => ∃ v', e = .returned v' ∧ w'.ownsRow w.heap.size 194 3 v' n xs ∧ Below w.heap.size w w' := by
  obtain ⟨i0, hi, hz0, hz1, hz2⟩ := @info_parts _ _ _ _ _ infoAc
  have q : ∀ (w : World) (a : Option Addr) (n c n' c' : Nat), (binOp .eql 128 (.slice a n c) (.slice none n' c')).run Try.prog w = .ok (.bool a.isNone) w := fun w a n c n' c' => Lib.run_eql_slice_nil w _ _ a n c n' c' Try.underlying128
  cases A with
  | none =>
    obtain rfl := hA rfl
    obtain rfl : xs = [] := List.eq_nil_of_length_eq_zero (by omega)
    clear hx hr hA h1 hn hi hz0 hz1 hz2
    go_enter Try.func204, Try.ntmps204
    go_wp2
    go_ret
    exact ⟨_, rfl, ⟨rfl, .inl ⟨rfl, rfl⟩⟩, Below.refl _ _⟩
  | some ad =>
    have hnews : ∀ j u, xs[j]? = some u → (w.alloc (.cells #[] 194)).cell? (ad.add j) = some u := fun j u hj => by
      obtain ⟨b, off, e, _, hc⟩ := hr j u hj
      cases e
      rw [add_plain, World.cell?_alloc_lt _ _ _ (World.block_lt_of_cell? w _ hc)]
      exact hc
    have HN := powers.lay hnews
    have HX := powers.lay hx
    have H1 := powers.lay h1
    clear hr hA hnews hx h1
    go_enter Try.func204, Try.ntmps204
    go_wp2_with (at_builtin; refine wpList_append_own _ rfl _ _ 128 rfl w.heap.size 194 i0 _ 3 24 Try.underlying128 hi hz0 hz1 hz2 rfl (by decide) _ _ _ rfl (World.ownsRow_made w #[] 0 (Nat.le_refl _) (Nat.zero_le _) rfl) ad n c xs rfl ?qc1 ?qc2 ?qc3 ?qc4 ?qc5 ?qc6 ?_)
    case qc1 => exact HX.out
    case qc2 => exact HN.out
    case qc3 => exact H1.out
    case qc4 => unfold maxLen; omega
    case qc5 => omega
    case qc6 => simp
    intro v' w1 hown hgrow _
    go_wp2
    go_ret
    exact ⟨v', rfl, by simpa using hown, ((Below.refl _ w).alloc (Nat.le_refl _) _).grown hgrow (by simp) (by intro k hk; simp [Value.ownBlock] at hk; omega)⟩

end Go.Proofs.Ytoenkkbcpafanaa.segs

/- mayBe and overlap. -/

namespace Go.Proofs.Ytoenkkbcpafanaa.segs
set_option linter.unusedVariables false
set_option linter.unusedSimpArgs false
open Go.RowKit Go.Shelf Go.Proofs.Ytoenkkbcpafanaa.base Go.Proofs.Ytoenkkbcpafanaa.trees Go.Proofs.Ytoenkkbcpafanaa.powers Go.Proofs.Ytoenkkbcpafanaa.mediums Go.Lib

/-- accounts in a row -/
def Ac (w : World) (lo ab c : Nat) (ac : List T3) : Prop := w.ownsRow lo 194 3 (.slice (some ⟨ab, 0, none⟩) ac.length c) ac.length (cellsJ ac)
section
variable {w w' : World} {lo ab c : Nat} {ac : List T3}
theorem Ac.cells (h : Ac w lo ab c ac) {i : Nat} (hi : i < ac.length) : w.cell? ⟨ab, i * 3, none⟩ = some (.int .i64 (at3 ac i).a) ∧ w.cell? ⟨ab, i * 3 + 1, none⟩ = some (.int .i64 (at3 ac i).b) ∧ w.cell? ⟨ab, i * 3 + 2, none⟩ = some (.int .i64 (at3 ac i).c) := by
  obtain ⟨c0, c1, c2⟩ := cellsJ_at ac hi
  rw [at3_eq hi]
  exact ⟨(World.ownsRow.cellAt h _ (by omega)).trans c0, (World.ownsRow.cellAt h _ (by omega)).trans c1, (World.ownsRow.cellAt h _ (by omega)).trans c2⟩
theorem Ac.below (h : Ac w lo ab c ac) (hb : Below w.heap.size w w') : Ac w' lo ab c ac := row_below h hb
theorem Ac.lt (h : Ac w lo ab c ac) : ab < w.heap.size := (World.ownsRow.lt h ab rfl).2
theorem Ac.low (h : Ac w lo ab c ac) : lo ≤ ab := (World.ownsRow.lt h ab rfl).1
theorem Ac.cap (h : Ac w lo ab c ac) : ac.length ≤ c := by
  obtain ⟨_, h1⟩ := h
  rcases h1 with ⟨h1, _⟩ | ⟨g, cap, cur, h1, _, _, hc, _⟩
  · cases h1
  · injection h1 with _ _ h3; subst h3; exact hc
theorem Ac.store (h : Ac w lo ab c ac) (j : Nat) (u : Value) {ac' : List T3} (he : (cellsJ ac).set j u = cellsJ ac') (hl : ac'.length = ac.length) : Ac (w.setCell ⟨ab, j, none⟩ u) lo ab c ac' ∧ Keep (fun k => k = ab) w (w.setCell ⟨ab, j, none⟩ u) := by
  obtain ⟨h1, h2⟩ := World.ownsRow.stored h j u
  rw [he, ← hl] at h1
  exact ⟨h1, grown_keep h2⟩
theorem Ac.keep {T : Nat → Prop} (h : Ac w lo ab c ac) (hk : Keep T w w') (hT : ¬ T ab) : Ac w' lo ab c ac := ownsRow_agree h fun g hg => by cases hg; exact hk.block _ h.lt hT
/-- an own row with something in it -/
theorem ac_shape {v : Value} {n : Nat} (h : w.ownsRow lo 194 3 v n (cellsJ ac)) (hn : n = ac.length) (h1 : 1 ≤ n) : ∃ ab c, v = .slice (some ⟨ab, 0, none⟩) ac.length c ∧ Ac w lo ab c ac := by
  subst hn
  rcases h.2 with ⟨_, h0⟩ | ⟨g, cap, cur, rfl, _⟩
  · omega
  · exact ⟨g, cap, rfl, h⟩

set_option maxRecDepth 100000 in
set_option maxHeartbeats 4000000 in
theorem may_neg (h : Ac w lo ab c ac) (hl : ac.length ≤ 4096) (pa pb pc : Int) (h1 : pa < 0) :
    Calls Try.prog 205 #[.slice (some ⟨ab, 0, none⟩) ac.length c, .agg #[.int .i64 pa, .int .i64 pb, .int .i64 pc]] w fun e w' => e = .returned (.bool false) ∧ Below w.heap.size w w' := by
  have bA : Below w.heap.size w (w.alloc (.cells #[.int .i64 pa, .int .i64 pb, .int .i64 pc] 189)) := (Below.refl _ _).alloc (Nat.le_refl _) _
  have kA := Blk.new w 189 #[.int .i64 pa, .int .i64 pb, .int .i64 pc]
  have hA := h.below bA
  have lA := kA.lt
  obtain ⟨q, hqd⟩ : ∃ q, w.heap.size = q := ⟨_, rfl⟩
  obtain ⟨W, hW⟩ : ∃ W, w.alloc (.cells #[.int .i64 pa, .int .i64 pb, .int .i64 pc] 189) = W := ⟨_, rfl⟩
  rw [hW] at bA kA hA lA
  rw [hqd] at kA lA
  obtain ⟨y0, y1, y2⟩ := kA.c3
  have HB := powers.lay bA
  have d1 : decide (pa < 0) = true := decide_eq_true h1
  clear h1
  clear hA h bA
  generalize ac.length = n at *
  go_enter Try.func205, Try.ntmps205
  go_wp2_with fail
  go_ret
  exact ⟨rfl, HB.out⟩

set_option maxRecDepth 100000 in
set_option maxHeartbeats 4000000 in
theorem may_far (h : Ac w lo ab c ac) (hl : ac.length ≤ 4096) (pa pb pc : Int) (h1 : 0 ≤ pa) (h2 : (ac.length : Int) ≤ pa) :
    Calls Try.prog 205 #[.slice (some ⟨ab, 0, none⟩) ac.length c, .agg #[.int .i64 pa, .int .i64 pb, .int .i64 pc]] w fun e w' => e = .returned (.bool false) ∧ Below w.heap.size w w' := by
  have bA : Below w.heap.size w (w.alloc (.cells #[.int .i64 pa, .int .i64 pb, .int .i64 pc] 189)) := (Below.refl _ _).alloc (Nat.le_refl _) _
  have kA := Blk.new w 189 #[.int .i64 pa, .int .i64 pb, .int .i64 pc]
  have hA := h.below bA
  have lA := kA.lt
  obtain ⟨q, hqd⟩ : ∃ q, w.heap.size = q := ⟨_, rfl⟩
  obtain ⟨W, hW⟩ : ∃ W, w.alloc (.cells #[.int .i64 pa, .int .i64 pb, .int .i64 pc] 189) = W := ⟨_, rfl⟩
  rw [hW] at bA kA hA lA
  rw [hqd] at kA lA
  obtain ⟨y0, y1, y2⟩ := kA.c3
  have HB := powers.lay bA
  have d1 : decide (pa < 0) = false := decide_eq_false (by omega)
  have d2 : decide ((ac.length : Int) ≤ pa) = true := decide_eq_true h2
  clear h1 h2
  clear hA h bA
  generalize ac.length = n at *
  go_enter Try.func205, Try.ntmps205
  go_wp2_with fail
  go_ret
  exact ⟨rfl, HB.out⟩

set_option maxRecDepth 100000 in
set_option maxHeartbeats 4000000 in
theorem may_off (h : Ac w lo ab c ac) (hl : ac.length ≤ 4096) (pa pb pc : Int) (h1 : 0 ≤ pa) (h2 : pa < (ac.length : Int)) (h3 : pb < 0) :
    Calls Try.prog 205 #[.slice (some ⟨ab, 0, none⟩) ac.length c, .agg #[.int .i64 pa, .int .i64 pb, .int .i64 pc]] w fun e w' => e = .returned (.bool false) ∧ Below w.heap.size w w' := by
  have bA : Below w.heap.size w (w.alloc (.cells #[.int .i64 pa, .int .i64 pb, .int .i64 pc] 189)) := (Below.refl _ _).alloc (Nat.le_refl _) _
  have kA := Blk.new w 189 #[.int .i64 pa, .int .i64 pb, .int .i64 pc]
  have hA := h.below bA
  have lA := kA.lt
  obtain ⟨q, hqd⟩ : ∃ q, w.heap.size = q := ⟨_, rfl⟩
  obtain ⟨W, hW⟩ : ∃ W, w.alloc (.cells #[.int .i64 pa, .int .i64 pb, .int .i64 pc] 189) = W := ⟨_, rfl⟩
  rw [hW] at bA kA hA lA
  rw [hqd] at kA lA
  obtain ⟨y0, y1, y2⟩ := kA.c3
  have HB := powers.lay bA
  have d1 : decide (pa < 0) = false := decide_eq_false (by omega)
  have d2 : decide ((ac.length : Int) ≤ pa) = false := decide_eq_false (by omega)
  have d3 : decide (pb < 0) = true := decide_eq_true h3
  clear h1 h2 h3
  clear hA h bA
  generalize ac.length = n at *
  go_enter Try.func205, Try.ntmps205
  go_wp2_with fail
  go_ret
  exact ⟨rfl, HB.out⟩

set_option maxRecDepth 100000 in
set_option maxHeartbeats 4000000 in
theorem may_len (h : Ac w lo ab c ac) (hl : ac.length ≤ 4096) (pa pb pc : Int) (h1 : 0 ≤ pa) (h2 : pa < (ac.length : Int)) (h3 : 0 ≤ pb) (h4 : pc < 1) :
    Calls Try.prog 205 #[.slice (some ⟨ab, 0, none⟩) ac.length c, .agg #[.int .i64 pa, .int .i64 pb, .int .i64 pc]] w fun e w' => e = .returned (.bool false) ∧ Below w.heap.size w w' := by
  have bA : Below w.heap.size w (w.alloc (.cells #[.int .i64 pa, .int .i64 pb, .int .i64 pc] 189)) := (Below.refl _ _).alloc (Nat.le_refl _) _
  have kA := Blk.new w 189 #[.int .i64 pa, .int .i64 pb, .int .i64 pc]
  have hA := h.below bA
  have lA := kA.lt
  obtain ⟨q, hqd⟩ : ∃ q, w.heap.size = q := ⟨_, rfl⟩
  obtain ⟨W, hW⟩ : ∃ W, w.alloc (.cells #[.int .i64 pa, .int .i64 pb, .int .i64 pc] 189) = W := ⟨_, rfl⟩
  rw [hW] at bA kA hA lA
  rw [hqd] at kA lA
  obtain ⟨y0, y1, y2⟩ := kA.c3
  have HB := powers.lay bA
  have d1 : decide (pa < 0) = false := decide_eq_false (by omega)
  have d2 : decide ((ac.length : Int) ≤ pa) = false := decide_eq_false (by omega)
  have d3 : decide (pb < 0) = false := decide_eq_false (by omega)
  have d4 : decide (pc < 1) = true := decide_eq_true h4
  clear h1 h2 h3 h4
  clear hA h bA
  generalize ac.length = n at *
  go_enter Try.func205, Try.ntmps205
  go_wp2_with fail
  go_ret
  exact ⟨rfl, HB.out⟩

set_option maxRecDepth 100000 in
set_option maxHeartbeats 4000000 in
theorem may_in (h : Ac w lo ab c ac) (hl : ac.length ≤ 4096) (j : Nat) (pb pc : Int) (h2 : j < ac.length) (h3 : 0 ≤ pb) (h4 : 1 ≤ pc) (hpb : pb ≤ 9223372036854775807) (hu : 0 ≤ (at3 ac j).b ∧ (at3 ac j).b ≤ 1048576) :
    Calls Try.prog 205 #[.slice (some ⟨ab, 0, none⟩) ac.length c, .agg #[.int .i64 (j : Int), .int .i64 pb, .int .i64 pc]] w fun e w' => e = .returned (.bool (decide (pc ≤ (at3 ac j).b - pb))) ∧ Below w.heap.size w w' := by
  have bA : Below w.heap.size w (w.alloc (.cells #[.int .i64 (j : Int), .int .i64 pb, .int .i64 pc] 189)) := (Below.refl _ _).alloc (Nat.le_refl _) _
  have kA := Blk.new w 189 #[.int .i64 (j : Int), .int .i64 pb, .int .i64 pc]
  have hA := h.below bA
  have lA := kA.lt
  obtain ⟨q, hqd⟩ : ∃ q, w.heap.size = q := ⟨_, rfl⟩
  obtain ⟨W, hW⟩ : ∃ W, w.alloc (.cells #[.int .i64 (j : Int), .int .i64 pb, .int .i64 pc] 189) = W := ⟨_, rfl⟩
  rw [hW] at bA kA hA lA
  rw [hqd] at kA lA
  obtain ⟨y0, y1, y2⟩ := kA.c3
  have HB := powers.lay bA
  have d1 : decide ((j : Int) < 0) = false := decide_eq_false (by omega)
  have d2 : decide ((ac.length : Int) ≤ (j : Int)) = false := decide_eq_false (by omega)
  have d2' : decide (ac.length ≤ j) = false := decide_eq_false (by omega)
  have d3 : decide (pb < 0) = false := decide_eq_false (by omega)
  have d4 : decide (pc < 1) = false := decide_eq_false (by omega)
  have v1 := (hA.cells h2).2.1
  have l1 := hA.lt
  have hcap := hA.cap
  have ew : IntKind.i64.wrap ((at3 ac j).b - pb) = (at3 ac j).b - pb := IntWalk.i64_in _ (by omega)
  generalize (at3 ac j).b = u at *
  generalize ac.length = n at *
  clear hA h
  go_enter Try.func205, Try.ntmps205
  go_upto_region 3 with (fail)
  have hS0 : Below W.heap.size W W.drew := (Below.refl _ _).drew
  refine mix.region_D (fun w' => Below W.heap.size W w') (fun _ => false) (by kernel_rfl) ?_
  generalize W.drew = wd at hS0 ⊢
  refine mix.D_take (i := 0) (v := ?_) rfl (by kernel_rfl) (by kernel_rfl) (fun _ _ _ h => h) (Or.inl ⟨by first | rfl | simp [Region.wanted, yielded], ?_⟩) hS0 ?_
  rotate_left
  · intro w' hSw
    have z0 := (hSw.cell (p := ⟨q, 0, none⟩) lA).trans y0
    have z1 := (hSw.cell (p := ⟨q, 1, none⟩) lA).trans y1
    have z2 := (hSw.cell (p := ⟨q, 2, none⟩) lA).trans y2
    have z3 := (hSw.cell (p := ⟨ab, j * 3 + 1, none⟩) l1).trans v1
    try simp only [List.getElem_toArray, List.getElem_cons_zero, List.getElem_cons_succ]
    go_simp
    exact rfl
  try simp only [Act.put, List.setIfInBounds_toArray, List.set_cons_zero, List.set_cons_succ, List.getElem_toArray, List.getElem_cons_zero, List.getElem_cons_succ]
  refine mix.D_take (i := 1) (v := ?_) rfl (by kernel_rfl) (by kernel_rfl) (fun _ _ _ h => h) (Or.inl ⟨by first | rfl | simp [Region.wanted, yielded], ?_⟩) hS0 ?_
  rotate_left
  · intro w' hSw
    have z0 := (hSw.cell (p := ⟨q, 0, none⟩) lA).trans y0
    have z1 := (hSw.cell (p := ⟨q, 1, none⟩) lA).trans y1
    have z2 := (hSw.cell (p := ⟨q, 2, none⟩) lA).trans y2
    have z3 := (hSw.cell (p := ⟨ab, j * 3 + 1, none⟩) l1).trans v1
    try simp only [List.getElem_toArray, List.getElem_cons_zero, List.getElem_cons_succ]
    go_simp
    exact rfl
  try simp only [Act.put, List.setIfInBounds_toArray, List.set_cons_zero, List.set_cons_succ, List.getElem_toArray, List.getElem_cons_zero, List.getElem_cons_succ]
  refine mix.D_take (i := 2) (v := ?_) rfl (by kernel_rfl) (by kernel_rfl) (fun _ _ _ h => h) (Or.inl ⟨by first | rfl | simp [Region.wanted, yielded], ?_⟩) hS0 ?_
  rotate_left
  · intro w' hSw
    have z0 := (hSw.cell (p := ⟨q, 0, none⟩) lA).trans y0
    have z1 := (hSw.cell (p := ⟨q, 1, none⟩) lA).trans y1
    have z2 := (hSw.cell (p := ⟨q, 2, none⟩) lA).trans y2
    have z3 := (hSw.cell (p := ⟨ab, j * 3 + 1, none⟩) l1).trans v1
    try simp only [List.getElem_toArray, List.getElem_cons_zero, List.getElem_cons_succ]
    go_simp
    exact rfl
  try simp only [Act.put, List.setIfInBounds_toArray, List.set_cons_zero, List.set_cons_succ, List.getElem_toArray, List.getElem_cons_zero, List.getElem_cons_succ]
  refine mix.D_take (i := 3) (v := ?_) rfl (by kernel_rfl) (by kernel_rfl) (fun _ _ _ h => h) (Or.inl ⟨by first | rfl | simp [Region.wanted, yielded], ?_⟩) hS0 ?_
  rotate_left
  · intro w' hSw
    have z0 := (hSw.cell (p := ⟨q, 0, none⟩) lA).trans y0
    have z1 := (hSw.cell (p := ⟨q, 1, none⟩) lA).trans y1
    have z2 := (hSw.cell (p := ⟨q, 2, none⟩) lA).trans y2
    have z3 := (hSw.cell (p := ⟨ab, j * 3 + 1, none⟩) l1).trans v1
    try simp only [List.getElem_toArray, List.getElem_cons_zero, List.getElem_cons_succ]
    go_simp
    exact rfl
  try simp only [Act.put, List.setIfInBounds_toArray, List.set_cons_zero, List.set_cons_succ, List.getElem_toArray, List.getElem_cons_zero, List.getElem_cons_succ]
  refine mix.D_take (i := 4) (v := ?_) rfl (by kernel_rfl) (by kernel_rfl) (fun _ _ _ h => h) (Or.inl ⟨by first | rfl | simp [Region.wanted, yielded], ?_⟩) hS0 ?_
  rotate_left
  · intro w' hSw
    have z0 := (hSw.cell (p := ⟨q, 0, none⟩) lA).trans y0
    have z1 := (hSw.cell (p := ⟨q, 1, none⟩) lA).trans y1
    have z2 := (hSw.cell (p := ⟨q, 2, none⟩) lA).trans y2
    have z3 := (hSw.cell (p := ⟨ab, j * 3 + 1, none⟩) l1).trans v1
    try simp only [List.getElem_toArray, List.getElem_cons_zero, List.getElem_cons_succ]
    go_simp
    exact rfl
  try simp only [Act.put, List.setIfInBounds_toArray, List.set_cons_zero, List.set_cons_succ, List.getElem_toArray, List.getElem_cons_zero, List.getElem_cons_succ]
  refine mix.D_take (i := 5) (v := ?_) rfl (by kernel_rfl) (by kernel_rfl) (fun _ _ _ h => h) (Or.inl ⟨by first | rfl | simp [Region.wanted, yielded], ?_⟩) hS0 ?_
  rotate_left
  · intro w' hSw
    have z0 := (hSw.cell (p := ⟨q, 0, none⟩) lA).trans y0
    have z1 := (hSw.cell (p := ⟨q, 1, none⟩) lA).trans y1
    have z2 := (hSw.cell (p := ⟨q, 2, none⟩) lA).trans y2
    have z3 := (hSw.cell (p := ⟨ab, j * 3 + 1, none⟩) l1).trans v1
    try simp only [List.getElem_toArray, List.getElem_cons_zero, List.getElem_cons_succ]
    go_simp
    exact rfl
  try simp only [Act.put, List.setIfInBounds_toArray, List.set_cons_zero, List.set_cons_succ, List.getElem_toArray, List.getElem_cons_zero, List.getElem_cons_succ]
  refine mix.D_take (i := 6) (v := ?_) rfl (by kernel_rfl) (by kernel_rfl) (fun _ _ _ h => h) (Or.inl ⟨by first | rfl | simp [Region.wanted, yielded], ?_⟩) hS0 ?_
  rotate_left
  · intro w' hSw
    have z0 := (hSw.cell (p := ⟨q, 0, none⟩) lA).trans y0
    have z1 := (hSw.cell (p := ⟨q, 1, none⟩) lA).trans y1
    have z2 := (hSw.cell (p := ⟨q, 2, none⟩) lA).trans y2
    have z3 := (hSw.cell (p := ⟨ab, j * 3 + 1, none⟩) l1).trans v1
    try simp only [List.getElem_toArray, List.getElem_cons_zero, List.getElem_cons_succ]
    go_simp
    exact rfl
  try simp only [Act.put, List.setIfInBounds_toArray, List.set_cons_zero, List.set_cons_succ, List.getElem_toArray, List.getElem_cons_zero, List.getElem_cons_succ]
  refine mix.D_take (i := 7) (v := ?_) rfl (by kernel_rfl) (by kernel_rfl) (fun _ _ _ h => h) (Or.inl ⟨by first | rfl | simp [Region.wanted, yielded], ?_⟩) hS0 ?_
  rotate_left
  · intro w' hSw
    have z0 := (hSw.cell (p := ⟨q, 0, none⟩) lA).trans y0
    have z1 := (hSw.cell (p := ⟨q, 1, none⟩) lA).trans y1
    have z2 := (hSw.cell (p := ⟨q, 2, none⟩) lA).trans y2
    have z3 := (hSw.cell (p := ⟨ab, j * 3 + 1, none⟩) l1).trans v1
    try simp only [List.getElem_toArray, List.getElem_cons_zero, List.getElem_cons_succ]
    go_simp
    exact rfl
  try simp only [Act.put, List.setIfInBounds_toArray, List.set_cons_zero, List.set_cons_succ, List.getElem_toArray, List.getElem_cons_zero, List.getElem_cons_succ]
  refine mix.D_take (i := 8) (v := ?_) rfl (by kernel_rfl) (by kernel_rfl) (fun _ _ _ h => h) (Or.inl ⟨by first | rfl | simp [Region.wanted, yielded], ?_⟩) hS0 ?_
  rotate_left
  · intro w' hSw
    have z0 := (hSw.cell (p := ⟨q, 0, none⟩) lA).trans y0
    have z1 := (hSw.cell (p := ⟨q, 1, none⟩) lA).trans y1
    have z2 := (hSw.cell (p := ⟨q, 2, none⟩) lA).trans y2
    have z3 := (hSw.cell (p := ⟨ab, j * 3 + 1, none⟩) l1).trans v1
    try simp only [List.getElem_toArray, List.getElem_cons_zero, List.getElem_cons_succ]
    go_simp
    exact rfl
  try simp only [Act.put, List.setIfInBounds_toArray, List.set_cons_zero, List.set_cons_succ, List.getElem_toArray, List.getElem_cons_zero, List.getElem_cons_succ]
  refine mix.D_take (i := 9) (v := ?_) rfl (by kernel_rfl) (by kernel_rfl) (fun _ _ _ h => h) (Or.inl ⟨by first | rfl | simp [Region.wanted, yielded], ?_⟩) hS0 ?_
  rotate_left
  · intro w' hSw
    have z0 := (hSw.cell (p := ⟨q, 0, none⟩) lA).trans y0
    have z1 := (hSw.cell (p := ⟨q, 1, none⟩) lA).trans y1
    have z2 := (hSw.cell (p := ⟨q, 2, none⟩) lA).trans y2
    have z3 := (hSw.cell (p := ⟨ab, j * 3 + 1, none⟩) l1).trans v1
    try simp only [List.getElem_toArray, List.getElem_cons_zero, List.getElem_cons_succ]
    go_simp
    exact rfl
  try simp only [Act.put, List.setIfInBounds_toArray, List.set_cons_zero, List.set_cons_succ, List.getElem_toArray, List.getElem_cons_zero, List.getElem_cons_succ]
  refine mix.D_take (i := 10) (v := ?_) rfl (by kernel_rfl) (by kernel_rfl) (fun _ _ _ h => h) (Or.inl ⟨by first | rfl | simp [Region.wanted, yielded], ?_⟩) hS0 ?_
  rotate_left
  · intro w' hSw
    have z0 := (hSw.cell (p := ⟨q, 0, none⟩) lA).trans y0
    have z1 := (hSw.cell (p := ⟨q, 1, none⟩) lA).trans y1
    have z2 := (hSw.cell (p := ⟨q, 2, none⟩) lA).trans y2
    have z3 := (hSw.cell (p := ⟨ab, j * 3 + 1, none⟩) l1).trans v1
    try simp only [List.getElem_toArray, List.getElem_cons_zero, List.getElem_cons_succ]
    go_simp
    exact rfl
  try simp only [Act.put, List.setIfInBounds_toArray, List.set_cons_zero, List.set_cons_succ, List.getElem_toArray, List.getElem_cons_zero, List.getElem_cons_succ]
  refine mix.D_take (i := 11) (v := ?_) rfl (by kernel_rfl) (by kernel_rfl) (fun _ _ _ h => h) (Or.inl ⟨by first | rfl | simp [Region.wanted, yielded], ?_⟩) hS0 ?_
  rotate_left
  · intro w' hSw
    have z0 := (hSw.cell (p := ⟨q, 0, none⟩) lA).trans y0
    have z1 := (hSw.cell (p := ⟨q, 1, none⟩) lA).trans y1
    have z2 := (hSw.cell (p := ⟨q, 2, none⟩) lA).trans y2
    have z3 := (hSw.cell (p := ⟨ab, j * 3 + 1, none⟩) l1).trans v1
    try simp only [List.getElem_toArray, List.getElem_cons_zero, List.getElem_cons_succ]
    go_simp
    exact rfl
  try simp only [Act.put, List.setIfInBounds_toArray, List.set_cons_zero, List.set_cons_succ, List.getElem_toArray, List.getElem_cons_zero, List.getElem_cons_succ]
  refine mix.D_take (i := 12) (v := ?_) rfl (by kernel_rfl) (by kernel_rfl) (fun _ _ _ h => h) (Or.inl ⟨by first | rfl | simp [Region.wanted, yielded], ?_⟩) hS0 ?_
  rotate_left
  · intro w' hSw
    have z0 := (hSw.cell (p := ⟨q, 0, none⟩) lA).trans y0
    have z1 := (hSw.cell (p := ⟨q, 1, none⟩) lA).trans y1
    have z2 := (hSw.cell (p := ⟨q, 2, none⟩) lA).trans y2
    have z3 := (hSw.cell (p := ⟨ab, j * 3 + 1, none⟩) l1).trans v1
    try simp only [List.getElem_toArray, List.getElem_cons_zero, List.getElem_cons_succ]
    go_simp
    exact rfl
  try simp only [Act.put, List.setIfInBounds_toArray, List.set_cons_zero, List.set_cons_succ, List.getElem_toArray, List.getElem_cons_zero, List.getElem_cons_succ]
  refine mix.D_done (by kernel_rfl) ?_ _
  try simp only [Act.put, List.setIfInBounds_toArray, List.set_cons_zero, List.set_cons_succ, List.getElem_toArray, List.getElem_cons_zero, List.getElem_cons_succ]
  go_wp2_with fail
  go_ret
  exact ⟨rfl, HB.out.trans (hS0.mono HB.out.size)⟩
theorem may_any (h : Ac w lo ab c ac) (hl : ac.length ≤ 4096) (hu : ∀ i, i < ac.length → 0 ≤ (at3 ac i).b ∧ (at3 ac i).b ≤ 1048576) (p : T3) (hp : (-9223372036854775808 ≤ p.a ∧ p.a ≤ 9223372036854775807) ∧ (-9223372036854775808 ≤ p.b ∧ p.b ≤ 9223372036854775807) ∧ (-9223372036854775808 ≤ p.c ∧ p.c ≤ 9223372036854775807)) :
    Calls Try.prog 205 #[.slice (some ⟨ab, 0, none⟩) ac.length c, p.v] w fun e w' => e = .returned (.bool (mayB ac p)) ∧ Below w.heap.size w w' := by
  have hno : ∀ {e : Ending} {w' : World}, mayB ac p ≠ true → (e = .returned (.bool false) ∧ Below w.heap.size w w') → (e = .returned (.bool (mayB ac p)) ∧ Below w.heap.size w w') := fun hm ⟨h1, h2⟩ => ⟨by rw [h1, Bool.eq_false_iff.2 hm], h2⟩
  obtain ⟨pa, pb, pc⟩ := p
  simp only at hp
  by_cases h1 : pa < 0
  · exact (may_neg h hl pa pb pc h1).mono fun e w' hh => hno (fun hm => by rw [mayB_iff] at hm; simp only at hm; omega) hh
  · by_cases h2 : (ac.length : Int) ≤ pa
    · exact (may_far h hl pa pb pc (by omega) h2).mono fun e w' hh => hno (fun hm => by rw [mayB_iff] at hm; simp only at hm; omega) hh
    · by_cases h3 : pb < 0
      · exact (may_off h hl pa pb pc (by omega) (by omega) h3).mono fun e w' hh => hno (fun hm => by rw [mayB_iff] at hm; simp only at hm; omega) hh
      · by_cases h4 : pc < 1
        · exact (may_len h hl pa pb pc (by omega) (by omega) (by omega) h4).mono fun e w' hh => hno (fun hm => by rw [mayB_iff] at hm; simp only at hm; omega) hh
        · obtain ⟨j, rfl⟩ := Int.eq_ofNat_of_zero_le (show 0 ≤ pa by omega)
          refine (may_in h hl j pb pc (by omega) (by omega) (by omega) hp.2.1.2 (hu j (by omega))).mono fun e w' ⟨a, b⟩ => ⟨?_, b⟩
          rw [a]
          congr 2
          unfold mayB
          rw [decide_eq_decide]
          simp only [Int.toNat_natCast]
          constructor
          · intro hh; exact ⟨by omega, by omega, by omega, hh⟩
          · intro hh; exact hh.2.2.2
end

theorem pair_perm {ps qs : List T3} (h : qs.Perm ps) : qs.Pairwise Disj ↔ ps.Pairwise Disj := h.pairwise_iff fun h => Disj.symm h
/-- the sort of a row of places of the call's own -/
theorem sort_ok {lo n : Nat} {v : Value} {ps : List T3} {w : World} (h : w.ownsRow lo 189 3 v n (cellsJ ps)) (hn : n = ps.length) (hlo : lo ≤ w.heap.size) (hmax : ps.length ≤ 140737488355328) :
    Calls Try.prog 238 #[v, .func (.func 239) #[] #[]] w fun e w' => e = .returned (.tuple #[]) ∧ Below lo w w' ∧ ∃ qs : List T3, qs.Perm ps ∧ (∀ i j, i < j → j < qs.length → ¬ (cfT (at3 qs j) (at3 qs i) < 0)) ∧ ∃ A c, v = .slice A n c ∧ n ≤ c ∧ Rd w' w'.heap.size A (cellsJ qs) := by
  subst hn
  by_cases h0 : ps.length = 0
  · obtain rfl := List.eq_nil_of_length_eq_zero h0
    obtain ⟨A, c, rfl, hc, _⟩ := row_rdF h
    exact (AnyF.slices_SortFunc_none Try.sortPl A c _ w).mono fun e w' ⟨h1, h2⟩ => ⟨h1, h2 ▸ Below.refl _ _, [], List.Perm.refl _, (fun i j _ hj => by cases hj), A, c, rfl, hc, Rd.nil _ _ _⟩
  · rcases h.2 with ⟨_, h1⟩ | ⟨g, cap, cur, rfl, hg, hb, hc, _⟩
    · exact absurd h1 h0
    · have hH := holds_of_row h rfl
      have eg : ∀ args w, (callFunc 239 args).run Try.prog w = .ok (.enter 239 args) w := enters_of Try.func239 (by kernel_rfl) rfl
      have hlt : g < w.heap.size := (h.lt g rfl).2
      have hcon := AnyQ.slices_SortFunc Try.sortPl 3 Try.isAgg189 Try.sizeOf189 T3.cells (fun _ => rfl) (fun x v hv => by simp [T3.cells] at hv; rcases hv with rfl | rfl | rfl <;> rfl) cfT swoT 239 #[] g 0 cap ps.toArray w eg (fun m os dk _ x y => closure_ok x y _) hH hlt (by simp; omega)
      refine hcon.mono ?_
      rintro e w' ⟨h1, d', m, os, hp, hs, rfl⟩
      obtain ⟨hp1, _, hp3⟩ := hp
      have hsz : d'.size = ps.length := by simpa using hp1
      have e1 : d'.extract 0 ps.toArray.size = d' := by rw [show ps.toArray.size = d'.size by simpa using hsz.symm]; exact Array.extract_size
      have e2 : ps.toArray.extract 0 ps.toArray.size = ps.toArray := Array.extract_size
      rw [e1, e2] at hp3
      refine ⟨h1, below_sort hg hlo, d'.toList, by simpa using hp3, fun i j hij hj => ?_, _, cap, rfl, hc, ?_⟩
      · have hj' : j < d'.size := by simpa using hj
        have := hs i j (Nat.zero_le _) hij (by simpa [hsz] using hj')
        rw [at3_arr d' hj', at3_arr d' (by omega)] at this
        unfold ltOf at this
        simpa using this
      · have hH2 := holdsK_sortWorldK_c T3.cells 3 w g 0 ps.toArray d' m os hH hlt (by simpa using hsz)
        intro j u hj
        have hjl : j < d'.toList.length * 3 := by rw [← cellsJ_len]; exact (List.getElem?_eq_some_iff.1 hj).1
        have hjs : j < (Go.Sort.flatK T3.cells 3 d').size := by simpa using hjl
        have hc2 := (hH2 j hjs).1
        have e4 : (Go.Sort.flatK T3.cells 3 d').toList = cellsJ d'.toList := by have := flat_cells d'.toList; simpa using this
        have e5 : (Go.Sort.flatK T3.cells 3 d')[j]! = u := by
          rw [getElem!_pos _ j hjs]
          rw [← e4, Array.getElem?_toList, Array.getElem?_eq_getElem hjs] at hj
          exact Option.some.inj hj
        refine ⟨g, 0, rfl, Nat.lt_of_lt_of_le hlt (size_sortWorldK_c T3.cells 3 w g 0 m d' os), ?_⟩
        rw [hc2, e5]; rfl

set_option maxRecDepth 100000 in
set_option maxHeartbeats 4000000 in
theorem overlap_ok (ps : List T3) (A : Option Addr) (c : Nat) (F : Nat → Prop) (w : World) (hr : RdF w F A (cellsJ ps)) (hA : A = none → c = 0) (hc : ps.length ≤ c) (hl : ps.length * 24 ≤ 140737488355328) (hb : ∀ p ∈ ps, 0 ≤ p.b ∧ 1 ≤ p.c ∧ p.b + p.c ≤ 1099511627776) :
    Calls Try.prog 206 #[.slice A ps.length c] w fun e w' => e = .returned (.bool (!decide (ps.Pairwise Disj))) ∧ Below w.heap.size w w' := by
  have c1 := cloneP_any A ps.length c (cellsJ ps) F w (cellsJ_len ps) hr (fun h => by have := hA h; omega) (cellsJ_one ps) hl
  have hbb : Hid (∀ p ∈ ps, 0 ≤ p.b ∧ 1 ≤ p.c ∧ p.b + p.c ≤ 1099511627776) := hb
  have hn1 : ps.length ≤ 140737488355328 := by omega
  obtain ⟨R, hR⟩ : ∃ R, (!decide (ps.Pairwise Disj)) = R := ⟨_, rfl⟩
  have HR := powers.lay hR
  have HR' := powers.lay hr
  rw [hR]
  clear hr hb hR hl
  obtain ⟨n, hn⟩ : ∃ n, ps.length = n := ⟨_, rfl⟩
  have HN := powers.lay hn
  rw [hn] at c1 hn1 hc ⊢
  clear hn
  go_enter Try.func206, Try.ntmps206
  go_wp2_with fail
  refine c1.mono ?_
  rintro e w1 ⟨v, rfl, ho, b1⟩
  clear c1
  have c2 := sort_ok ho HN.out.symm b1.size (by rw [HN.out]; exact hn1)
  obtain ⟨A1, c1, rfl, hc1, _⟩ := row_rdF ho
  go_wp2_with fail
  refine c2.mono ?_
  rintro e w2 ⟨rfl, b2, qs, hperm, hsort, A2, c2, hv, hc2, hrd⟩
  injection hv with hv1 _ hv2
  subst hv1 hv2
  have hql : qs.length = n := hperm.length_eq.trans HN.out
  have hqb : ∀ p ∈ qs, 0 ≤ p.b ∧ 1 ≤ p.c ∧ p.b + p.c ≤ 1099511627776 := fun p hp => hbb.out p (hperm.mem_iff.1 hp)
  have hiff := (pair_perm hperm).symm.trans (sorted_disj (fun i j h1 h2 => by have := hsort i j h1 h2; omega) (fun p hp => (hqb p hp).2.1))
  have b02 : Below w.heap.size w w2 := b1.trans b2
  have HQL := powers.lay hql
  have HQB := powers.lay hqb
  have HIF := powers.lay hiff
  have HRD := powers.lay hrd
  have HPR := powers.lay hperm
  clear c2 ho hql hqb hiff hrd hsort hperm b1 b2 hc1
  go_wp2_with fail
  go_loopw [4] (fun i wr => ∃ j : Nat, i = .int .i64 ((j : Int) + 1) ∧ (j = 0 ∨ j + 1 ≤ n) ∧ Below w.heap.size w wr ∧ Hid (Below w2.heap.size w2 wr ∧ ∀ i, i < j → ¬ badN qs i)) (fun i _ => n + 1 - (RowKit.intOf i).toNat)
  case atStart => exact ⟨0, by go_num, .inl rfl, b02, powers.lay ⟨Below.refl _ _, fun i hi => absurd hi (Nat.not_lt_zero _)⟩⟩
  case round =>
    obtain ⟨j, rfl, hj, hb0, HJ⟩ := hrel
    have e1 : IntKind.i64.wrap ((j : Int) + 1 + 1) = (j : Int) + 1 + 1 := IntWalk.i64_in _ (by omega)
    have e2 : IntKind.i64.wrap ((j : Int) + 1 - 1) = (j : Int) := by rw [show (j : Int) + 1 - 1 = (j : Int) by omega]; exact IntWalk.i64_in _ (by omega)
    by_cases hlt : j + 1 < n
    · have hj1 : j + 1 < qs.length := by rw [HQL.out]; exact hlt
      have hj0 : j < qs.length := by omega
      have d0 : decide ((j : Int) + 1 < (n : Int)) = true := decide_eq_true (by omega)
      have d0' : decide (j + 1 < n) = true := decide_eq_true hlt
      have hrw := HRD.out.keep fun _ hp => HJ.out.1.cell hp
      obtain ⟨bk, off, rfl, hbk, x0⟩ := hrw.at_ (k := j * 3) (by rw [cellsJ_len]; omega)
      obtain ⟨_, _, ee, _, x1⟩ := hrw.at_ (k := j * 3 + 1) (by rw [cellsJ_len]; omega)
      cases ee
      obtain ⟨_, _, ee, _, x2⟩ := hrw.at_ (k := j * 3 + 2) (by rw [cellsJ_len]; omega)
      cases ee
      obtain ⟨_, _, ee, _, x3⟩ := hrw.at_ (k := (j + 1) * 3) (by rw [cellsJ_len]; omega)
      cases ee
      obtain ⟨_, _, ee, _, x4⟩ := hrw.at_ (k := (j + 1) * 3 + 1) (by rw [cellsJ_len]; omega)
      cases ee
      obtain ⟨_, _, ee, _, x5⟩ := hrw.at_ (k := (j + 1) * 3 + 2) (by rw [cellsJ_len]; omega)
      cases ee
      have g0 := cellsJ_at qs hj0
      have g1 := cellsJ_at qs hj1
      rw [List.getElem?_eq_getElem (by rw [cellsJ_len]; omega), List.getElem?_eq_getElem (by rw [cellsJ_len]; omega), List.getElem?_eq_getElem (by rw [cellsJ_len]; omega)] at g0 g1
      obtain ⟨a0, a1, a2⟩ := g0
      obtain ⟨a3, a4, a5⟩ := g1
      rw [Option.some.inj a0] at x0
      rw [Option.some.inj a1, ← Nat.add_assoc] at x1
      rw [Option.some.inj a2, ← Nat.add_assoc] at x2
      rw [Option.some.inj a3] at x3
      rw [Option.some.inj a4, ← Nat.add_assoc] at x4
      rw [Option.some.inj a5, ← Nat.add_assoc] at x5
      have hx := HQB.out _ (List.getElem_mem hj0)
      have hbad := powers.lay (show badN qs j ↔ (qs[j].a = qs[j + 1].a ∧ qs[j + 1].b < qs[j].b + qs[j].c) by unfold badN; rw [at3_eq hj0, at3_eq hj1])
      have lbk : bk < wr.heap.size := Nat.lt_of_lt_of_le hbk HJ.out.1.size
      have e3 : IntKind.i64.wrap (j : Int) = (j : Int) := IntWalk.i64_in _ (by omega)
      have q1 : 0 ≤ (j : Int) + 1 := by omega
      have q2 : (j : Int) + 1 < (n : Int) := by omega
      have q3 : (j : Int) < (n : Int) := by omega
      have q4 : 0 ≤ (j : Int) + 1 ∧ (j : Int) + 1 < (n : Int) := ⟨q1, q2⟩
      have q5 : j < n := by omega
      clear a0 a1 a2 a3 a4 a5
      generalize qs[j] = x at *
      generalize qs[j + 1] = y at *
      go_upto_region 6 with (fail)
      go_cut [5, 6] from 17 to 25 (fun a b wx => ∃ (q5 q6 : Nat), a = .pointer (some ⟨q5, 0, none⟩) ∧ b = .pointer (some ⟨q6, 0, none⟩) ∧ Hid (Blk wx q5 189 #[.int .i64 x.a, .int .i64 x.b, .int .i64 x.c] ∧ Blk wx q6 189 #[.int .i64 y.a, .int .i64 y.b, .int .i64 y.c] ∧ Below w.heap.size w wx ∧ Below w2.heap.size w2 wx))
      case first =>
        have hS0 : Below wr.heap.size wr wr.drew := (Below.refl _ _).drew
        have hbd := hb0.trans (hS0.mono hb0.size)
        have hbe := HJ.out.1.trans (hS0.mono HJ.out.1.size)
        refine mix.region_D (fun w' => Below wr.heap.size wr w') (fun _ => false) (by kernel_rfl) ?_
        generalize wr.drew = wd at hS0 hbd hbe ⊢
        refine mix.D_takeT (i := 0) (v := ?_) rfl (by kernel_rfl) (by kernel_rfl) (fun _ _ _ h => h) (Or.inl ⟨by first | rfl | simp [Region.wanted, yielded], ?_⟩) hS0 ?_
        rotate_left
        · intro w' hSw
          have z0 := (hSw.cell (p := ⟨bk, off + j * 3, none⟩) lbk).trans x0
          have z1 := (hSw.cell (p := ⟨bk, off + j * 3 + 1, none⟩) lbk).trans x1
          have z2 := (hSw.cell (p := ⟨bk, off + j * 3 + 2, none⟩) lbk).trans x2
          have z3 := (hSw.cell (p := ⟨bk, off + (j + 1) * 3, none⟩) lbk).trans x3
          have z4 := (hSw.cell (p := ⟨bk, off + (j + 1) * 3 + 1, none⟩) lbk).trans x4
          have z5 := (hSw.cell (p := ⟨bk, off + (j + 1) * 3 + 2, none⟩) lbk).trans x5
          try simp only [List.getElem_toArray, List.getElem_cons_zero, List.getElem_cons_succ]
          go_simp
          exact rfl
        try simp only [Act.put, List.setIfInBounds_toArray, List.set_cons_zero, List.set_cons_succ, List.getElem_toArray, List.getElem_cons_zero, List.getElem_cons_succ]
        refine mix.D_takeT (i := 1) (v := ?_) rfl (by kernel_rfl) (by kernel_rfl) (fun _ _ _ h => h) (Or.inl ⟨by first | rfl | simp [Region.wanted, yielded], ?_⟩) hS0 ?_
        rotate_left
        · intro w' hSw
          have z0 := (hSw.cell (p := ⟨bk, off + j * 3, none⟩) lbk).trans x0
          have z1 := (hSw.cell (p := ⟨bk, off + j * 3 + 1, none⟩) lbk).trans x1
          have z2 := (hSw.cell (p := ⟨bk, off + j * 3 + 2, none⟩) lbk).trans x2
          have z3 := (hSw.cell (p := ⟨bk, off + (j + 1) * 3, none⟩) lbk).trans x3
          have z4 := (hSw.cell (p := ⟨bk, off + (j + 1) * 3 + 1, none⟩) lbk).trans x4
          have z5 := (hSw.cell (p := ⟨bk, off + (j + 1) * 3 + 2, none⟩) lbk).trans x5
          try simp only [List.getElem_toArray, List.getElem_cons_zero, List.getElem_cons_succ]
          go_simp
          exact rfl
        try simp only [Act.put, List.setIfInBounds_toArray, List.set_cons_zero, List.set_cons_succ, List.getElem_toArray, List.getElem_cons_zero, List.getElem_cons_succ]
        refine mix.D_takeT (i := 2) (v := ?_) rfl (by kernel_rfl) (by kernel_rfl) (fun _ _ _ h => h) (Or.inl ⟨by first | rfl | simp [Region.wanted, yielded], ?_⟩) hS0 ?_
        rotate_left
        · intro w' hSw
          have z0 := (hSw.cell (p := ⟨bk, off + j * 3, none⟩) lbk).trans x0
          have z1 := (hSw.cell (p := ⟨bk, off + j * 3 + 1, none⟩) lbk).trans x1
          have z2 := (hSw.cell (p := ⟨bk, off + j * 3 + 2, none⟩) lbk).trans x2
          have z3 := (hSw.cell (p := ⟨bk, off + (j + 1) * 3, none⟩) lbk).trans x3
          have z4 := (hSw.cell (p := ⟨bk, off + (j + 1) * 3 + 1, none⟩) lbk).trans x4
          have z5 := (hSw.cell (p := ⟨bk, off + (j + 1) * 3 + 2, none⟩) lbk).trans x5
          try simp only [List.getElem_toArray, List.getElem_cons_zero, List.getElem_cons_succ]
          go_simp
          exact rfl
        try simp only [Act.put, List.setIfInBounds_toArray, List.set_cons_zero, List.set_cons_succ, List.getElem_toArray, List.getElem_cons_zero, List.getElem_cons_succ]
        refine mix.D_takeT (i := 3) (v := ?_) rfl (by kernel_rfl) (by kernel_rfl) (fun _ _ _ h => h) (Or.inl ⟨by first | rfl | simp [Region.wanted, yielded], ?_⟩) hS0 ?_
        rotate_left
        · intro w' hSw
          have z0 := (hSw.cell (p := ⟨bk, off + j * 3, none⟩) lbk).trans x0
          have z1 := (hSw.cell (p := ⟨bk, off + j * 3 + 1, none⟩) lbk).trans x1
          have z2 := (hSw.cell (p := ⟨bk, off + j * 3 + 2, none⟩) lbk).trans x2
          have z3 := (hSw.cell (p := ⟨bk, off + (j + 1) * 3, none⟩) lbk).trans x3
          have z4 := (hSw.cell (p := ⟨bk, off + (j + 1) * 3 + 1, none⟩) lbk).trans x4
          have z5 := (hSw.cell (p := ⟨bk, off + (j + 1) * 3 + 2, none⟩) lbk).trans x5
          try simp only [List.getElem_toArray, List.getElem_cons_zero, List.getElem_cons_succ]
          go_simp
          exact rfl
        try simp only [Act.put, List.setIfInBounds_toArray, List.set_cons_zero, List.set_cons_succ, List.getElem_toArray, List.getElem_cons_zero, List.getElem_cons_succ]
        refine mix.D_takeT (i := 4) (v := ?_) rfl (by kernel_rfl) (by kernel_rfl) (fun _ _ _ h => h) (Or.inl ⟨by first | rfl | simp [Region.wanted, yielded], ?_⟩) hS0 ?_
        rotate_left
        · intro w' hSw
          have z0 := (hSw.cell (p := ⟨bk, off + j * 3, none⟩) lbk).trans x0
          have z1 := (hSw.cell (p := ⟨bk, off + j * 3 + 1, none⟩) lbk).trans x1
          have z2 := (hSw.cell (p := ⟨bk, off + j * 3 + 2, none⟩) lbk).trans x2
          have z3 := (hSw.cell (p := ⟨bk, off + (j + 1) * 3, none⟩) lbk).trans x3
          have z4 := (hSw.cell (p := ⟨bk, off + (j + 1) * 3 + 1, none⟩) lbk).trans x4
          have z5 := (hSw.cell (p := ⟨bk, off + (j + 1) * 3 + 2, none⟩) lbk).trans x5
          try simp only [List.getElem_toArray, List.getElem_cons_zero, List.getElem_cons_succ]
          go_simp
          exact rfl
        try simp only [Act.put, List.setIfInBounds_toArray, List.set_cons_zero, List.set_cons_succ, List.getElem_toArray, List.getElem_cons_zero, List.getElem_cons_succ]
        refine mix.D_takeT (i := 5) (v := ?_) rfl (by kernel_rfl) (by kernel_rfl) (fun _ _ _ h => h) (Or.inl ⟨by first | rfl | simp [Region.wanted, yielded], ?_⟩) hS0 ?_
        rotate_left
        · intro w' hSw
          have z0 := (hSw.cell (p := ⟨bk, off + j * 3, none⟩) lbk).trans x0
          have z1 := (hSw.cell (p := ⟨bk, off + j * 3 + 1, none⟩) lbk).trans x1
          have z2 := (hSw.cell (p := ⟨bk, off + j * 3 + 2, none⟩) lbk).trans x2
          have z3 := (hSw.cell (p := ⟨bk, off + (j + 1) * 3, none⟩) lbk).trans x3
          have z4 := (hSw.cell (p := ⟨bk, off + (j + 1) * 3 + 1, none⟩) lbk).trans x4
          have z5 := (hSw.cell (p := ⟨bk, off + (j + 1) * 3 + 2, none⟩) lbk).trans x5
          try simp only [List.getElem_toArray, List.getElem_cons_zero, List.getElem_cons_succ]
          go_simp
          exact rfl
        try simp only [Act.put, List.setIfInBounds_toArray, List.set_cons_zero, List.set_cons_succ, List.getElem_toArray, List.getElem_cons_zero, List.getElem_cons_succ]
        refine mix.D_takeT (i := 6) (v := ?_) rfl (by kernel_rfl) (by kernel_rfl) (fun _ _ _ h => h) (Or.inl ⟨by first | rfl | simp [Region.wanted, yielded], ?_⟩) hS0 ?_
        rotate_left
        · intro w' hSw
          have z0 := (hSw.cell (p := ⟨bk, off + j * 3, none⟩) lbk).trans x0
          have z1 := (hSw.cell (p := ⟨bk, off + j * 3 + 1, none⟩) lbk).trans x1
          have z2 := (hSw.cell (p := ⟨bk, off + j * 3 + 2, none⟩) lbk).trans x2
          have z3 := (hSw.cell (p := ⟨bk, off + (j + 1) * 3, none⟩) lbk).trans x3
          have z4 := (hSw.cell (p := ⟨bk, off + (j + 1) * 3 + 1, none⟩) lbk).trans x4
          have z5 := (hSw.cell (p := ⟨bk, off + (j + 1) * 3 + 2, none⟩) lbk).trans x5
          try simp only [List.getElem_toArray, List.getElem_cons_zero, List.getElem_cons_succ]
          go_simp
          exact rfl
        try simp only [Act.put, List.setIfInBounds_toArray, List.set_cons_zero, List.set_cons_succ, List.getElem_toArray, List.getElem_cons_zero, List.getElem_cons_succ]
        refine mix.D_takeT (i := 7) (v := ?_) rfl (by kernel_rfl) (by kernel_rfl) (fun _ _ _ h => h) (Or.inl ⟨by first | rfl | simp [Region.wanted, yielded], ?_⟩) hS0 ?_
        rotate_left
        · intro w' hSw
          have z0 := (hSw.cell (p := ⟨bk, off + j * 3, none⟩) lbk).trans x0
          have z1 := (hSw.cell (p := ⟨bk, off + j * 3 + 1, none⟩) lbk).trans x1
          have z2 := (hSw.cell (p := ⟨bk, off + j * 3 + 2, none⟩) lbk).trans x2
          have z3 := (hSw.cell (p := ⟨bk, off + (j + 1) * 3, none⟩) lbk).trans x3
          have z4 := (hSw.cell (p := ⟨bk, off + (j + 1) * 3 + 1, none⟩) lbk).trans x4
          have z5 := (hSw.cell (p := ⟨bk, off + (j + 1) * 3 + 2, none⟩) lbk).trans x5
          try simp only [List.getElem_toArray, List.getElem_cons_zero, List.getElem_cons_succ]
          go_simp
          exact rfl
        try simp only [Act.put, List.setIfInBounds_toArray, List.set_cons_zero, List.set_cons_succ, List.getElem_toArray, List.getElem_cons_zero, List.getElem_cons_succ]
        refine mix.D_takeT (i := 8) (v := ?_) rfl (by kernel_rfl) (by kernel_rfl) (fun _ _ _ h => h) (Or.inl ⟨by first | rfl | simp [Region.wanted, yielded], ?_⟩) hS0 ?_
        rotate_left
        · intro w' hSw
          have z0 := (hSw.cell (p := ⟨bk, off + j * 3, none⟩) lbk).trans x0
          have z1 := (hSw.cell (p := ⟨bk, off + j * 3 + 1, none⟩) lbk).trans x1
          have z2 := (hSw.cell (p := ⟨bk, off + j * 3 + 2, none⟩) lbk).trans x2
          have z3 := (hSw.cell (p := ⟨bk, off + (j + 1) * 3, none⟩) lbk).trans x3
          have z4 := (hSw.cell (p := ⟨bk, off + (j + 1) * 3 + 1, none⟩) lbk).trans x4
          have z5 := (hSw.cell (p := ⟨bk, off + (j + 1) * 3 + 2, none⟩) lbk).trans x5
          try simp only [List.getElem_toArray, List.getElem_cons_zero, List.getElem_cons_succ]
          go_simp
          exact rfl
        try simp only [Act.put, List.setIfInBounds_toArray, List.set_cons_zero, List.set_cons_succ, List.getElem_toArray, List.getElem_cons_zero, List.getElem_cons_succ]
        refine mix.D_two (k := 9) (j := 10) rfl rfl rfl rfl (by kernel_rfl) (fun K' hK => ?_) (fun K' hK => ?_)
        · skip
          simp only [List.getElem_toArray, List.getElem_cons_zero, List.getElem_cons_succ]
          have hS1 : Below wr.heap.size wr (wd.alloc (.cells #[.int .i64 0, .int .i64 0, .int .i64 0] 189)) := hS0.alloc hS0.size _
          go_wp2_with fail
          refine hK.out _ _ (fun _ => hS1) ?_
          clear hK K'
          try simp only [Act.put, List.setIfInBounds_toArray, List.set_cons_zero, List.set_cons_succ]
          refine mix.D_op (k := 10) rfl rfl (by kernel_rfl) (fun K' hK => ?_)
          simp only [List.getElem_toArray, List.getElem_cons_zero, List.getElem_cons_succ]
          have hS2 : Below wr.heap.size wr ((wd.alloc (.cells #[.int .i64 0, .int .i64 0, .int .i64 0] 189)).alloc (.cells #[.int .i64 0, .int .i64 0, .int .i64 0] 189)) := hS1.alloc hS1.size _
          go_wp2_with fail
          refine hK.out _ _ (fun _ => hS2) ?_
          clear hK K' hS1
          try simp only [Act.put, List.setIfInBounds_toArray, List.set_cons_zero, List.set_cons_succ]
          have ka := (Blk.new wd 189 #[.int .i64 0, .int .i64 0, .int .i64 0]).alloc (.cells #[.int .i64 0, .int .i64 0, .int .i64 0] 189)
          have kb := Blk.new (wd.alloc (.cells #[.int .i64 0, .int .i64 0, .int .i64 0] 189)) 189 #[.int .i64 0, .int .i64 0, .int .i64 0]
          have bb : Below w.heap.size w ((wd.alloc (.cells #[.int .i64 0, .int .i64 0, .int .i64 0] 189)).alloc (.cells #[.int .i64 0, .int .i64 0, .int .i64 0] 189)) := (hbd.alloc hbd.size _).alloc (by have := hbd.size; simp; omega) _
          have cc : Below w2.heap.size w2 ((wd.alloc (.cells #[.int .i64 0, .int .i64 0, .int .i64 0] 189)).alloc (.cells #[.int .i64 0, .int .i64 0, .int .i64 0] 189)) := (hbe.alloc hbe.size _).alloc (by have := hbe.size; simp; omega) _
          have hlo2 : w2.heap.size ≤ wd.heap.size := hbe.size
          have hlo3 : wr.heap.size ≤ wd.heap.size := hS0.size
          rw [World.size_alloc] at kb
          have hq1 : wd.heap.size ≠ wd.heap.size + 1 := by omega
          have hlo : w.heap.size ≤ wd.heap.size := hbd.size
          obtain ⟨qa, hqa⟩ : ∃ qa, wd.heap.size = qa := ⟨_, rfl⟩
          obtain ⟨qb, hqb⟩ : ∃ qb, wd.heap.size + 1 = qb := ⟨_, rfl⟩
          try simp only [World.size_alloc]
          rw [hqb] at kb hq1
          rw [hqa] at ka hq1 hlo hlo2 hlo3
          have hqb' : qa + 1 = qb := by omega
          try rw [hqa]
          try rw [hqb']
          try rw [hqb]
          generalize (wd.alloc (.cells #[.int .i64 0, .int .i64 0, .int .i64 0] 189)).alloc (.cells #[.int .i64 0, .int .i64 0, .int .i64 0] 189) = W5 at *
          have hlob : w.heap.size ≤ qb := by omega
          have hlob2 : w2.heap.size ≤ qb := by omega
          have hlob3 : wr.heap.size ≤ qb := by omega
          have hqn := hq1
          have hqm : qb ≠ qa := fun e => hq1 e.symm
          have f0 := ka.frozen 0
          have f1 := ka.frozen 1
          have f2 := ka.frozen 2
          have f3 := kb.frozen 0
          have f4 := kb.frozen 1
          have f5 := kb.frozen 2
          obtain ⟨g0, g1, g2⟩ := ka.c3
          obtain ⟨g3, g4, g5⟩ := kb.c3
          have hS3 := (three ka hS2 hlo3 (.int .i64 x.a) (.int .i64 x.b) (.int .i64 x.c)).2.1
          have hS4 := (three ((three ka hS2 hlo3 (.int .i64 x.a) (.int .i64 x.b) (.int .i64 x.c)).2.2.blk kb (fun e => hqn e.symm)) hS3 hlob3 (.int .i64 y.a) (.int .i64 y.b) (.int .i64 y.c)).2.1
          refine mix.D_op (k := 11) rfl rfl (by kernel_rfl) (fun K' hK => ?_)
          simp only [List.getElem_toArray, List.getElem_cons_zero, List.getElem_cons_succ]
          go_wp2_with fail
          refine hK.out _ _ (fun _ => hS3) ?_
          clear hK K'
          try simp only [Act.put, List.setIfInBounds_toArray, List.set_cons_zero, List.set_cons_succ]
          refine mix.D_op (k := 12) rfl rfl (by kernel_rfl) (fun K' hK => ?_)
          simp only [List.getElem_toArray, List.getElem_cons_zero, List.getElem_cons_succ]
          go_wp2_with fail
          refine hK.out _ _ (fun _ => hS4) ?_
          clear hK K'
          try simp only [Act.put, List.setIfInBounds_toArray, List.set_cons_zero, List.set_cons_succ]
          refine mix.D_done (by kernel_rfl) ?_ _
          obtain ⟨k5, b5, kp5⟩ := three ka bb hlo (.int .i64 x.a) (.int .i64 x.b) (.int .i64 x.c)
          have c5 := (three ka cc hlo2 (.int .i64 x.a) (.int .i64 x.b) (.int .i64 x.c)).2.1
          have k6 := kp5.blk kb (fun e => hqn e.symm)
          generalize (((W5.setCell ⟨qa, 0, none⟩ (.int .i64 x.a)).setCell ⟨qa, 1, none⟩ (.int .i64 x.b)).setCell ⟨qa, 2, none⟩ (.int .i64 x.c)) = W6 at *
          obtain ⟨k7, b7, kp7⟩ := three k6 b5 hlob (.int .i64 y.a) (.int .i64 y.b) (.int .i64 y.c)
          have c7 := (three k6 c5 hlob2 (.int .i64 y.a) (.int .i64 y.b) (.int .i64 y.c)).2.1
          have k8 := kp7.blk k5 hqn
          generalize (((W6.setCell ⟨qb, 0, none⟩ (.int .i64 y.a)).setCell ⟨qb, 1, none⟩ (.int .i64 y.b)).setCell ⟨qb, 2, none⟩ (.int .i64 y.c)) = W7 at *
          go_wp2_with fail
          go_meet
          case rel => exact ⟨qa, qb, rfl, rfl, powers.lay ⟨k8, k7, b7, c7⟩⟩
        · skip
          simp only [List.getElem_toArray, List.getElem_cons_zero, List.getElem_cons_succ]
          have hS1 : Below wr.heap.size wr (wd.alloc (.cells #[.int .i64 0, .int .i64 0, .int .i64 0] 189)) := hS0.alloc hS0.size _
          go_wp2_with fail
          refine hK.out _ _ (fun _ => hS1) ?_
          clear hK K'
          try simp only [Act.put, List.setIfInBounds_toArray, List.set_cons_zero, List.set_cons_succ]
          refine mix.D_op (k := 9) rfl rfl (by kernel_rfl) (fun K' hK => ?_)
          simp only [List.getElem_toArray, List.getElem_cons_zero, List.getElem_cons_succ]
          have hS2 : Below wr.heap.size wr ((wd.alloc (.cells #[.int .i64 0, .int .i64 0, .int .i64 0] 189)).alloc (.cells #[.int .i64 0, .int .i64 0, .int .i64 0] 189)) := hS1.alloc hS1.size _
          go_wp2_with fail
          refine hK.out _ _ (fun _ => hS2) ?_
          clear hK K' hS1
          try simp only [Act.put, List.setIfInBounds_toArray, List.set_cons_zero, List.set_cons_succ]
          have ka := (Blk.new wd 189 #[.int .i64 0, .int .i64 0, .int .i64 0]).alloc (.cells #[.int .i64 0, .int .i64 0, .int .i64 0] 189)
          have kb := Blk.new (wd.alloc (.cells #[.int .i64 0, .int .i64 0, .int .i64 0] 189)) 189 #[.int .i64 0, .int .i64 0, .int .i64 0]
          have bb : Below w.heap.size w ((wd.alloc (.cells #[.int .i64 0, .int .i64 0, .int .i64 0] 189)).alloc (.cells #[.int .i64 0, .int .i64 0, .int .i64 0] 189)) := (hbd.alloc hbd.size _).alloc (by have := hbd.size; simp; omega) _
          have cc : Below w2.heap.size w2 ((wd.alloc (.cells #[.int .i64 0, .int .i64 0, .int .i64 0] 189)).alloc (.cells #[.int .i64 0, .int .i64 0, .int .i64 0] 189)) := (hbe.alloc hbe.size _).alloc (by have := hbe.size; simp; omega) _
          have hlo2 : w2.heap.size ≤ wd.heap.size := hbe.size
          have hlo3 : wr.heap.size ≤ wd.heap.size := hS0.size
          rw [World.size_alloc] at kb
          have hq1 : wd.heap.size ≠ wd.heap.size + 1 := by omega
          have hlo : w.heap.size ≤ wd.heap.size := hbd.size
          obtain ⟨qa, hqa⟩ : ∃ qa, wd.heap.size = qa := ⟨_, rfl⟩
          obtain ⟨qb, hqb⟩ : ∃ qb, wd.heap.size + 1 = qb := ⟨_, rfl⟩
          try simp only [World.size_alloc]
          rw [hqb] at kb hq1
          rw [hqa] at ka hq1 hlo hlo2 hlo3
          have hqb' : qa + 1 = qb := by omega
          try rw [hqa]
          try rw [hqb']
          try rw [hqb]
          generalize (wd.alloc (.cells #[.int .i64 0, .int .i64 0, .int .i64 0] 189)).alloc (.cells #[.int .i64 0, .int .i64 0, .int .i64 0] 189) = W5 at *
          have hlob : w.heap.size ≤ qb := by omega
          have hlob2 : w2.heap.size ≤ qb := by omega
          have hlob3 : wr.heap.size ≤ qb := by omega
          have hqn := hq1
          have hqm : qb ≠ qa := fun e => hq1 e.symm
          have f0 := ka.frozen 0
          have f1 := ka.frozen 1
          have f2 := ka.frozen 2
          have f3 := kb.frozen 0
          have f4 := kb.frozen 1
          have f5 := kb.frozen 2
          obtain ⟨g0, g1, g2⟩ := ka.c3
          obtain ⟨g3, g4, g5⟩ := kb.c3
          have hS3 := (three kb hS2 hlob3 (.int .i64 x.a) (.int .i64 x.b) (.int .i64 x.c)).2.1
          have hS4 := (three ((three kb hS2 hlob3 (.int .i64 x.a) (.int .i64 x.b) (.int .i64 x.c)).2.2.blk ka (fun e => hqm e.symm)) hS3 hlo3 (.int .i64 y.a) (.int .i64 y.b) (.int .i64 y.c)).2.1
          refine mix.D_op (k := 11) rfl rfl (by kernel_rfl) (fun K' hK => ?_)
          simp only [List.getElem_toArray, List.getElem_cons_zero, List.getElem_cons_succ]
          go_wp2_with fail
          refine hK.out _ _ (fun _ => hS3) ?_
          clear hK K'
          try simp only [Act.put, List.setIfInBounds_toArray, List.set_cons_zero, List.set_cons_succ]
          refine mix.D_op (k := 12) rfl rfl (by kernel_rfl) (fun K' hK => ?_)
          simp only [List.getElem_toArray, List.getElem_cons_zero, List.getElem_cons_succ]
          go_wp2_with fail
          refine hK.out _ _ (fun _ => hS4) ?_
          clear hK K'
          try simp only [Act.put, List.setIfInBounds_toArray, List.set_cons_zero, List.set_cons_succ]
          refine mix.D_done (by kernel_rfl) ?_ _
          obtain ⟨k5, b5, kp5⟩ := three kb bb hlob (.int .i64 x.a) (.int .i64 x.b) (.int .i64 x.c)
          have c5 := (three kb cc hlob2 (.int .i64 x.a) (.int .i64 x.b) (.int .i64 x.c)).2.1
          have k6 := kp5.blk ka (fun e => hqm e.symm)
          generalize (((W5.setCell ⟨qb, 0, none⟩ (.int .i64 x.a)).setCell ⟨qb, 1, none⟩ (.int .i64 x.b)).setCell ⟨qb, 2, none⟩ (.int .i64 x.c)) = W6 at *
          obtain ⟨k7, b7, kp7⟩ := three k6 b5 hlo (.int .i64 y.a) (.int .i64 y.b) (.int .i64 y.c)
          have c7 := (three k6 c5 hlo2 (.int .i64 y.a) (.int .i64 y.b) (.int .i64 y.c)).2.1
          have k8 := kp7.blk k5 hqm
          generalize (((W6.setCell ⟨qa, 0, none⟩ (.int .i64 y.a)).setCell ⟨qa, 1, none⟩ (.int .i64 y.b)).setCell ⟨qa, 2, none⟩ (.int .i64 y.c)) = W7 at *
          go_wp2_with fail
          go_meet
          case rel => exact ⟨qb, qa, rfl, rfl, powers.lay ⟨k8, k7, b7, c7⟩⟩
      case rest =>
        obtain ⟨q5, q6, rfl, rfl, HC⟩ := hcut
        obtain ⟨k5, k6, b5, c5⟩ := HC.out
        have HB5 := powers.lay b5
        have HC5 := powers.lay c5
        obtain ⟨y0, y1, y2⟩ := k5.c3
        obtain ⟨z0, z1, z2⟩ := k6.c3
        have ew : IntKind.i64.wrap (x.b + x.c) = x.b + x.c := IntWalk.i64_in _ (by omega)
        clear HC k5 k6 x0 x1 x2 x3 x4 x5 b5 c5 hb0
        by_cases h1 : x.a = y.a
        · have d1 : decide (x.a = y.a) = true := decide_eq_true h1
          have d1' : (x.a == y.a) = true := by simp [h1]
          by_cases h2 : y.b < x.b + x.c
          · have d2 : decide (y.b < x.b + x.c) = true := decide_eq_true h2
            have HF : Hid (R = true) := powers.lay (by
              rw [← HR.out, decide_eq_false (fun hp => HIF.out.1 hp j hj1 (hbad.out.2 ⟨h1, h2⟩))]; rfl)
            clear hbad
            go_wp2_with fail
            go_ret
            exact ⟨by rw [HF.out]; rfl, HB5.out⟩
          · have d2 : decide (y.b < x.b + x.c) = false := decide_eq_false h2
            have HJ2 : Hid (Below w2.heap.size w2 wc ∧ ∀ i, i < j + 1 → ¬ badN qs i) := powers.lay ⟨HC5.out, fun i hi => by
              rcases Nat.lt_or_ge i j with h | h
              · exact HJ.out.2 i h
              · obtain rfl : i = j := by omega
                exact fun hb => h2 (hbad.out.1 hb).2⟩
            clear hbad
            go_wp2_with fail
            exact ⟨⟨j + 1, by go_num, .inr (by omega), HB5.out, HJ2⟩, by first | (simp [RowKit.intOf]; done) | (simp [RowKit.intOf]; omega) | omega⟩
        · have d1 : decide (x.a = y.a) = false := decide_eq_false h1
          have d1' : (x.a == y.a) = false := by simp [h1]
          have HJ2 : Hid (Below w2.heap.size w2 wc ∧ ∀ i, i < j + 1 → ¬ badN qs i) := powers.lay ⟨HC5.out, fun i hi => by
            rcases Nat.lt_or_ge i j with h | h
            · exact HJ.out.2 i h
            · obtain rfl : i = j := by omega
              exact fun hb => h1 (hbad.out.1 hb).1⟩
          clear hbad
          go_wp2_with fail
          exact ⟨⟨j + 1, by go_num, .inr (by omega), HB5.out, HJ2⟩, by first | (simp [RowKit.intOf]; done) | (simp [RowKit.intOf]; omega) | omega⟩
    · have d0 : decide ((j : Int) + 1 < (n : Int)) = false := decide_eq_false (by omega)
      have d0' : decide (j + 1 < n) = false := decide_eq_false hlt
      have HF : Hid (R = false) := powers.lay (by
        rw [← HR.out, decide_eq_true (HIF.out.2 fun i hi => HJ.out.2 i (by rw [HQL.out] at hi; omega))]; rfl)
      go_wp2_with fail
      go_ret
      exact ⟨by rw [HF.out]; rfl, hb0⟩

end Go.Proofs.Ytoenkkbcpafanaa.segs

/- settled and Settle. -/

namespace Go.Proofs.Ytoenkkbcpafanaa.segs
set_option linter.unusedVariables false
set_option linter.unusedSimpArgs false
open Go.RowKit Go.Shelf Go.Proofs.Ytoenkkbcpafanaa.base Go.Proofs.Ytoenkkbcpafanaa.trees Go.Proofs.Ytoenkkbcpafanaa.powers Go.Proofs.Ytoenkkbcpafanaa.mediums Go.Lib

/-- the first j turned -/
def mapTo (f : T3 → T3) (ac : List T3) (j : Nat) : List T3 := (ac.take j).map f ++ ac.drop j
theorem mapTo_zero (f : T3 → T3) (ac : List T3) : mapTo f ac 0 = ac := rfl
theorem mapTo_all (f : T3 → T3) (ac : List T3) : mapTo f ac ac.length = ac.map f := by unfold mapTo; rw [List.take_length, List.drop_length, List.append_nil]
theorem mapTo_len (f : T3 → T3) (ac : List T3) (j : Nat) : (mapTo f ac j).length = ac.length := by
  unfold mapTo
  rw [List.length_append, List.length_map, List.length_take, List.length_drop]; omega
theorem mapTo_at (f : T3 → T3) (ac : List T3) {j : Nat} (hj : j < ac.length) : at3 (mapTo f ac j) j = at3 ac j := by
  unfold mapTo at3
  rw [List.getElem?_append_right (by rw [List.length_map, List.length_take]; omega), List.length_map, List.length_take, List.getElem?_drop, show j + (j - min j ac.length) = j by omega]
theorem mapTo_set (f : T3 → T3) (ac : List T3) {j : Nat} (hj : j < ac.length) : (mapTo f ac j).set j (f (at3 ac j)) = mapTo f ac (j + 1) := by
  unfold mapTo
  rw [List.set_append, if_neg (by rw [List.length_map, List.length_take]; omega), List.length_map, List.length_take, show j - min j ac.length = 0 by omega, List.drop_eq_getElem_cons hj, List.set_cons_zero, List.take_add_one, List.getElem?_eq_getElem hj, List.map_append, List.append_assoc, at3_eq hj]
  rfl
theorem mapTo_stay (f : T3 → T3) (ac : List T3) {j : Nat} (hj : j < ac.length) (h : f (at3 ac j) = at3 ac j) : mapTo f ac (j + 1) = mapTo f ac j := by
  rw [← mapTo_set f ac hj, h]
  apply List.ext_getElem?
  intro i
  by_cases e : j = i
  · subst e
    have := mapTo_at f ac hj
    rw [List.getElem?_set_self (by rw [mapTo_len]; exact hj)]
    rw [List.getElem?_eq_getElem (by rw [mapTo_len]; exact hj)]
    rw [at3_eq (by rw [mapTo_len]; exact hj)] at this
    rw [this]
  · rw [List.getElem?_set_ne e]
/-- Ps: places in a list, all ints -/
def PsF (w : World) (F : Nat → Prop) (ps : List T3) (A : Option Addr) (c : Nat) : Prop := ps.length ≤ c ∧ ps.length * 24 ≤ 140737488355328 ∧ (A = none → c = 0) ∧ RdF w F A (cellsJ ps) ∧ ∀ p ∈ ps, (-9223372036854775808 ≤ p.a ∧ p.a ≤ 9223372036854775807) ∧ (-9223372036854775808 ≤ p.b ∧ p.b ≤ 9223372036854775807) ∧ (-9223372036854775808 ≤ p.c ∧ p.c ≤ 9223372036854775807)
theorem PsF.agree {w w' : World} {F : Nat → Prop} {ps : List T3} {A : Option Addr} {c : Nat} (h : PsF w F ps A c) (hk : Agree w w' F) : PsF w' F ps A c := ⟨h.1, h.2.1, h.2.2.1, h.2.2.2.1.agree hk, h.2.2.2.2⟩
theorem PsF.at_ {w : World} {F : Nat → Prop} {ps : List T3} {A : Option Addr} {c : Nat} (h : PsF w F ps A c) {j : Nat} (hj : j < ps.length) : ∃ b off, A = some ⟨b, off, none⟩ ∧ F b ∧ w.cell? ⟨b, off + j * 3, none⟩ = some (.int .i64 ps[j].a) ∧ w.cell? ⟨b, off + j * 3 + 1, none⟩ = some (.int .i64 ps[j].b) ∧ w.cell? ⟨b, off + j * 3 + 2, none⟩ = some (.int .i64 ps[j].c) := by
  obtain ⟨c0, c1, c2⟩ := cellsJ_at ps hj
  obtain ⟨b, off, e, hb, h0⟩ := h.2.2.2.1 _ _ c0
  obtain ⟨b1, off1, e1, hb1, h1⟩ := h.2.2.2.1 _ _ c1
  obtain ⟨b2, off2, e2, hb2, h2⟩ := h.2.2.2.1 _ _ c2
  rw [e] at e1 e2
  cases e1
  cases e2
  exact ⟨b, off, e, hb, h0, by rw [Nat.add_assoc]; exact h1, by rw [Nat.add_assoc]; exact h2⟩
theorem all_take {α : Type} {f : α → Bool} {l : List α} {j : Nat} (hj : j < l.length) (h1 : (l.take j).all f = true) (h2 : f l[j] = true) : (l.take (j + 1)).all f = true := by
  rw [List.take_add_one, List.getElem?_eq_getElem hj, List.all_append, h1]; simp [h2]
theorem sums_take (ac ps : List T3) {j : Nat} (hj : j < ps.length) : sums ac (ps.take (j + 1)) = addL (sums ac (ps.take j)) ps[j] := by
  rw [List.take_add_one, List.getElem?_eq_getElem hj]; exact sums_snoc _ _ _
theorem mayB_congr {ac ac' : List T3} (hl : ac'.length = ac.length) (hb : ∀ i, (at3 ac' i).b = (at3 ac i).b) (p : T3) : mayB ac' p = mayB ac p := by unfold mayB; rw [hl, hb]
theorem liveIn_take_le {ac ps : List T3} {j : Nat} (h : (ps.take j).all (mayB ac) = true) (hu : ∀ i, i < ac.length → 0 ≤ (at3 ac i).b ∧ (at3 ac i).b ≤ 1048576) (hj : j ≤ ps.length) (i : Nat) : 0 ≤ liveIn (ps.take j) i ∧ liveIn (ps.take j) i ≤ (j : Int) * 1048576 := by
  have hm : ∀ p ∈ ps.take j, 1 ≤ p.c ∧ p.c ≤ 1048576 := fun p hp => by
    have := List.all_eq_true.1 h p hp
    rw [mayB_iff] at this
    obtain ⟨⟨h1, h2⟩, h3, h4, h5⟩ := this
    have := hu p.a.toNat (by omega)
    exact ⟨h4, by omega⟩
  refine ⟨liveIn_nonneg (fun p hp => (hm p hp).1) i, ?_⟩
  have := liveIn_le (M := 1048576) (fun p hp => ⟨by have := hm p hp; omega, (hm p hp).2⟩) i
  rw [List.length_take, Nat.min_eq_left hj] at this
  exact this
theorem free_yes {x : T3} (h : x.a = 2 ∧ x.c = 0) : freeT x = ⟨1, 0, 0⟩ := by unfold freeT; rw [if_pos h]
theorem free_no {x : T3} (h : ¬ (x.a = 2 ∧ x.c = 0)) : freeT x = x := by unfold freeT; rw [if_neg h]
theorem set_three (l : List T3) {i : Nat} (hi : i < l.length) (x : T3) : (((cellsJ l).set (i * 3) (.int .i64 x.a)).set (i * 3 + 1) (.int .i64 x.b)).set (i * 3 + 2) (.int .i64 x.c) = cellsJ (l.set i x) := by
  rw [cellsJ_set0 l hi, cellsJ_set1 _ (by simpa using hi), cellsJ_set2 _ (by simpa using hi), List.set_set, List.set_set, at3_set _ (by simpa using hi), at3_set _ (by simpa using hi)]
theorem Ac.store3 {w : World} {lo ab c : Nat} {ac : List T3} (h : Ac w lo ab c ac) {j : Nat} (hj : j < ac.length) (x : T3) :
    Ac (((w.setCell ⟨ab, j * 3, none⟩ (.int .i64 x.a)).setCell ⟨ab, j * 3 + 1, none⟩ (.int .i64 x.b)).setCell ⟨ab, j * 3 + 2, none⟩ (.int .i64 x.c)) lo ab c (ac.set j x) ∧ Keep (fun k => k = ab) w (((w.setCell ⟨ab, j * 3, none⟩ (.int .i64 x.a)).setCell ⟨ab, j * 3 + 1, none⟩ (.int .i64 x.b)).setCell ⟨ab, j * 3 + 2, none⟩ (.int .i64 x.c)) := by
  obtain ⟨h1, k1⟩ := World.ownsRow.stored h (j * 3) (.int .i64 x.a)
  obtain ⟨h2, k2⟩ := World.ownsRow.stored h1 (j * 3 + 1) (.int .i64 x.b)
  obtain ⟨h3, k3⟩ := World.ownsRow.stored h2 (j * 3 + 2) (.int .i64 x.c)
  rw [set_three ac hj x] at h3
  have hl : (ac.set j x).length = ac.length := List.length_set
  refine ⟨?_, ((grown_keep k1).trans (grown_keep k2) fun k hk _ => hk).trans (grown_keep k3) fun k hk _ => hk⟩
  unfold Ac
  rw [hl]
  exact h3
/-- what settled answers -/
def StPost (ac ps : List T3) (w : World) (e : Ending) (w' : World) : Prop := Below w.heap.size w w' ∧
  ((settledP ac ps = none ∧ e = .returned (.tuple #[.slice none 0 0, .bool false])) ∨
   (∃ ac' ab' c', settledP ac ps = some ac' ∧ ac'.length = ac.length ∧ e = .returned (.tuple #[.slice (some ⟨ab', 0, none⟩) ac'.length c', .bool true]) ∧ Ac w' w.heap.size ab' c' ac'))

set_option maxRecDepth 100000 in
set_option maxHeartbeats 4000000 in
theorem settled_ok {w : World} {lo ab c : Nat} {ac : List T3} (h : Ac w lo ab c ac) (hl : 1 ≤ ac.length ∧ ac.length ≤ 4096) (hu : ∀ i, i < ac.length → 0 ≤ (at3 ac i).b ∧ (at3 ac i).b ≤ 1048576) (ps : List T3) (A : Option Addr) (cp : Nat) (F : Nat → Prop) (hF : ∀ k, F k → k < w.heap.size) (hP : PsF w F ps A cp) :
    Calls Try.prog 154 #[.slice (some ⟨ab, 0, none⟩) ac.length c, .slice A ps.length cp] w (StPost ac ps w) := by
  obtain ⟨A0, c0, e0, hc0, hA0, hr0⟩ := row_rdF h
  cases e0
  have cC := cloneA_any (some ⟨ab, 0, none⟩) ac.length c (cellsJ ac) _ w (cellsJ_len ac) hr0 (fun h => by cases h) (cellsJ_one ac) (by omega)
  have hps := hP.2.1
  have hpc := hP.1
  have hpA := hP.2.2.1
  have HP := powers.lay hP
  obtain ⟨n, hn⟩ : ∃ n, ac.length = n := ⟨_, rfl⟩
  have HN := powers.lay hn
  have HU := powers.lay hu
  obtain ⟨pn, hpn⟩ : ∃ pn, ps.length = pn := ⟨_, rfl⟩
  have HPN := powers.lay hpn
  rw [hn] at cC hl ⊢
  rw [hpn] at hps hpc ⊢
  clear hr0 hA0 hn hpn hP hu
  go_enter Try.func154, Try.ntmps154
  go_wp2_with fail
  refine cC.mono ?_
  rintro e w1 ⟨v, rfl, ho, b1⟩
  clear cC
  obtain ⟨a1, k1, rfl, h1⟩ := ac_shape ho HN.out.symm hl.1
  rw [HN.out]
  clear ho
  go_wp2_with fail
  go_loopw [16] (fun i wr => ∃ j : Nat, i = .int .i64 (j : Int) ∧ j ≤ n ∧ Hid (Ac wr w.heap.size a1 k1 (mapTo noL ac j) ∧ Below w.heap.size w wr)) (fun i _ => n - (RowKit.intOf i).toNat)
  case atStart => exact ⟨0, rfl, Nat.zero_le _, powers.lay ⟨by rw [mapTo_zero]; exact h1, b1⟩⟩
  case round =>
    clear h1 b1
    obtain ⟨j, rfl, hj, HR⟩ := hrel
    have e1 : IntKind.i64.wrap ((j : Int) + 1) = (j : Int) + 1 := IntWalk.i64_in _ (by omega)
    by_cases hlt : j < n
    · have hja : j < ac.length := by rw [HN.out]; exact hlt
      have hjm : j < (mapTo noL ac j).length := by rw [mapTo_len]; exact hja
      have y2 := (HR.out.1.cells hjm).2.2
      have f2 := World.ownsRow.frozenAt HR.out.1 (j * 3 + 2)
      have hcap := HR.out.1.cap
      rw [mapTo_len, HN.out] at hcap
      go_wp2_with fail
      obtain ⟨h2, k2⟩ := HR.out.1.store (j * 3 + 2) (.int .i64 0) (ac' := mapTo noL ac (j + 1)) (by rw [cellsJ_set2 _ hjm, mapTo_at noL ac hja, ← mapTo_set noL ac hja]; rfl) (by rw [mapTo_len, mapTo_len])
      have hlo := HR.out.1.low
      have b2 : Below w.heap.size w (wr.setCell ⟨a1, j * 3 + 2, none⟩ (.int .i64 0)) := HR.out.2.trans (k2.below (fun k hk => by rw [hk]; exact hlo) HR.out.2.size)
      go_roundw
      case rel => exact ⟨j + 1, by go_num, hlt, powers.lay ⟨h2, b2⟩⟩
      case measure => first | (simp [RowKit.intOf]; done) | (simp [RowKit.intOf]; omega) | omega
    · obtain rfl : n = j := by omega
      have HR1 : Hid (Ac wr w.heap.size a1 k1 (sums ac (ps.take 0)) ∧ Below w.heap.size w wr ∧ (ps.take 0).all (mayB ac) = true) := powers.lay ⟨by
        have := HR.out.1
        rw [← HN.out, mapTo_all] at this
        exact this, HR.out.2, rfl⟩
      clear HR
      go_wp2_with fail
      go_loopw [26] (fun i wx => ∃ j : Nat, i = .int .i64 (j : Int) ∧ j ≤ pn ∧ Hid (Ac wx w.heap.size a1 k1 (sums ac (ps.take j)) ∧ Below w.heap.size w wx ∧ (ps.take j).all (mayB ac) = true)) (fun i _ => pn - (RowKit.intOf i).toNat)
      case atStart => exact ⟨0, rfl, Nat.zero_le _, HR1⟩
      case round =>
        clear HR1
        obtain ⟨j, rfl, hj, HR⟩ := hrel
        have e1 : IntKind.i64.wrap ((j : Int) + 1) = (j : Int) + 1 := IntWalk.i64_in _ (by omega)
        by_cases hlt : j < pn
        · have hjp : j < ps.length := by rw [HPN.out]; exact hlt
          obtain ⟨bk, off, rfl, hbk, x0, x1, x2⟩ := (HP.out.agree (Agree.of_below HR.out.2.1 hF)).at_ hjp
          have hpr := HP.out.2.2.2.2 _ (List.getElem_mem hjp)
          have HAL := powers.lay (fun h => all_take hjp HR.out.2.2 h)
          have HSM := powers.lay (sums_take ac ps hjp)
          have hmb : mayB (sums ac (ps.take j)) ps[j] = mayB ac ps[j] := mayB_congr (sums_len _ _) (fun i => (sums_ab _ _ i).2) _
          have hin := List.getElem_mem hjp
          have HIN := powers.lay hin
          generalize ps[j] = x at *
          obtain ⟨xa, xb, xc⟩ := x
          simp only [] at x0 x1 x2
          have kA := Blk.new wr 189 #[.int .i64 xa, .int .i64 xb, .int .i64 xc]
          have bA : Below wr.heap.size wr (wr.alloc (.cells #[.int .i64 xa, .int .i64 xb, .int .i64 xc] 189)) := (Below.refl _ _).alloc (Nat.le_refl _) _
          have lZ : wr.heap.size < (wr.alloc (.cells #[.int .i64 xa, .int .i64 xb, .int .i64 xc] 189)).heap.size := by simp
          obtain ⟨WA, hWA⟩ : ∃ WA, wr.alloc (.cells #[.int .i64 xa, .int .i64 xb, .int .i64 xc] 189) = WA := ⟨_, rfl⟩
          rw [hWA] at kA bA lZ
          have hAc := HR.out.1.below bA
          have hbW : Below w.heap.size w WA := HR.out.2.1.trans (bA.mono HR.out.2.1.size)
          obtain ⟨y0, y1, y2⟩ := kA.c3
          have cM := may_any hAc (by rw [sums_len, HN.out]; exact hl.2) (fun i hi => by rw [(sums_ab ac _ i).2]; exact HU.out i (by rw [sums_len] at hi; exact hi)) ⟨xa, xb, xc⟩ hpr
          rw [hmb, sums_len, HN.out] at cM
          by_cases hm : mayB ac ⟨xa, xb, xc⟩ = true
          · rw [hm] at cM
            have HM := powers.lay hm
            clear hm hmb hin
            go_wp2_with fail
            refine cM.mono ?_
            rintro e W2 ⟨rfl, b2⟩
            clear cM
            obtain ⟨⟨m1, m2⟩, m3, m4, m5⟩ := mayB_iff.1 HM.out
            simp only at m1 m2 m3 m4 m5
            obtain ⟨k, rfl⟩ := Int.eq_ofNat_of_zero_le m1
            rw [HN.out] at m2
            have hk : k < n := by omega
            have hka : k < ac.length := by rw [HN.out]; exact hk
            have hks : k < (sums ac (ps.take j)).length := by rw [sums_len]; exact hka
            have huk := HU.out k hka
            rw [Int.toNat_natCast] at m5
            have h2 := hAc.below b2
            have vk := (h2.cells hks).2.2
            have fk := World.ownsRow.frozenAt h2 (k * 3 + 2)
            have lk := h2.lt
            have hcap := h2.cap
            rw [sums_len, HN.out] at hcap
            have hcb := liveIn_take_le HR.out.2.2 HU.out (by rw [HPN.out]; exact hj) k
            have hcc := sums_c ac (ps.take j) k hka
            have hv2 : (at3 (sums ac (ps.take j)) k).c = liveIn (ps.take j) k := hcc
            rw [hv2] at vk
            have HCC := powers.lay hv2
            clear hcc hv2
            generalize liveIn (ps.take j) k = cc at *
            have ew : IntKind.i64.wrap (cc + xc) = cc + xc := IntWalk.i64_in _ (by omega)
            have kA2 := kA.below b2 kA.lt
            have l2 := kA2.lt
            have hbW2 := hbW.trans (b2.mono hbW.size)
            clear y0 y1 y2 x0 x1 x2 m1 m2 m5 hcb kA hAc hbW b2 hWA bA
            generalize wr.heap.size = q at *
            obtain ⟨y0, y1, y2⟩ := kA2.c3
            go_upto_region 12 with (fail)
            have hS0 : Below W2.heap.size W2 W2.drew := (Below.refl _ _).drew
            have fk2 : W2.drew.frozen? ⟨a1, k * 3 + 2, none⟩ = false := fk
            refine mix.region_D (fun w' => Below W2.heap.size W2 w') (fun j => j == 11) (by kernel_rfl) ?_
            generalize W2.drew = wd at hS0 fk2 ⊢
            refine mix.D_takeT (i := 0) (v := ?_) rfl (by kernel_rfl) (by kernel_rfl) (fun _ _ _ h => h) (Or.inl ⟨by first | rfl | simp [Region.wanted, yielded], ?_⟩) hS0 ?_
            rotate_left
            · intro w' hSw
              have z0 := (hSw.cell (p := ⟨q, 0, none⟩) l2).trans y0
              have z1 := (hSw.cell (p := ⟨q, 2, none⟩) l2).trans y2
              have z2 := (hSw.cell (p := ⟨a1, k * 3 + 2, none⟩) lk).trans vk
              try simp only [List.getElem_toArray, List.getElem_cons_zero, List.getElem_cons_succ]
              go_simp
              exact rfl
            try simp only [Act.put, List.setIfInBounds_toArray, List.set_cons_zero, List.set_cons_succ, List.getElem_toArray, List.getElem_cons_zero, List.getElem_cons_succ]
            refine mix.D_takeT (i := 1) (v := ?_) rfl (by kernel_rfl) (by kernel_rfl) (fun _ _ _ h => h) (Or.inl ⟨by first | rfl | simp [Region.wanted, yielded], ?_⟩) hS0 ?_
            rotate_left
            · intro w' hSw
              have z0 := (hSw.cell (p := ⟨q, 0, none⟩) l2).trans y0
              have z1 := (hSw.cell (p := ⟨q, 2, none⟩) l2).trans y2
              have z2 := (hSw.cell (p := ⟨a1, k * 3 + 2, none⟩) lk).trans vk
              try simp only [List.getElem_toArray, List.getElem_cons_zero, List.getElem_cons_succ]
              go_simp
              exact rfl
            try simp only [Act.put, List.setIfInBounds_toArray, List.set_cons_zero, List.set_cons_succ, List.getElem_toArray, List.getElem_cons_zero, List.getElem_cons_succ]
            refine mix.D_takeT (i := 2) (v := ?_) rfl (by kernel_rfl) (by kernel_rfl) (fun _ _ _ h => h) (Or.inl ⟨by first | rfl | simp [Region.wanted, yielded], ?_⟩) hS0 ?_
            rotate_left
            · intro w' hSw
              have z0 := (hSw.cell (p := ⟨q, 0, none⟩) l2).trans y0
              have z1 := (hSw.cell (p := ⟨q, 2, none⟩) l2).trans y2
              have z2 := (hSw.cell (p := ⟨a1, k * 3 + 2, none⟩) lk).trans vk
              try simp only [List.getElem_toArray, List.getElem_cons_zero, List.getElem_cons_succ]
              go_simp
              exact rfl
            try simp only [Act.put, List.setIfInBounds_toArray, List.set_cons_zero, List.set_cons_succ, List.getElem_toArray, List.getElem_cons_zero, List.getElem_cons_succ]
            refine mix.D_takeT (i := 3) (v := ?_) rfl (by kernel_rfl) (by kernel_rfl) (fun _ _ _ h => h) (Or.inl ⟨by first | rfl | simp [Region.wanted, yielded], ?_⟩) hS0 ?_
            rotate_left
            · intro w' hSw
              have z0 := (hSw.cell (p := ⟨q, 0, none⟩) l2).trans y0
              have z1 := (hSw.cell (p := ⟨q, 2, none⟩) l2).trans y2
              have z2 := (hSw.cell (p := ⟨a1, k * 3 + 2, none⟩) lk).trans vk
              try simp only [List.getElem_toArray, List.getElem_cons_zero, List.getElem_cons_succ]
              go_simp
              exact rfl
            try simp only [Act.put, List.setIfInBounds_toArray, List.set_cons_zero, List.set_cons_succ, List.getElem_toArray, List.getElem_cons_zero, List.getElem_cons_succ]
            refine mix.D_takeT (i := 4) (v := ?_) rfl (by kernel_rfl) (by kernel_rfl) (fun _ _ _ h => h) (Or.inl ⟨by first | rfl | simp [Region.wanted, yielded], ?_⟩) hS0 ?_
            rotate_left
            · intro w' hSw
              have z0 := (hSw.cell (p := ⟨q, 0, none⟩) l2).trans y0
              have z1 := (hSw.cell (p := ⟨q, 2, none⟩) l2).trans y2
              have z2 := (hSw.cell (p := ⟨a1, k * 3 + 2, none⟩) lk).trans vk
              try simp only [List.getElem_toArray, List.getElem_cons_zero, List.getElem_cons_succ]
              go_simp
              exact rfl
            try simp only [Act.put, List.setIfInBounds_toArray, List.set_cons_zero, List.set_cons_succ, List.getElem_toArray, List.getElem_cons_zero, List.getElem_cons_succ]
            refine mix.D_takeT (i := 5) (v := ?_) rfl (by kernel_rfl) (by kernel_rfl) (fun _ _ _ h => h) (Or.inl ⟨by first | rfl | simp [Region.wanted, yielded], ?_⟩) hS0 ?_
            rotate_left
            · intro w' hSw
              have z0 := (hSw.cell (p := ⟨q, 0, none⟩) l2).trans y0
              have z1 := (hSw.cell (p := ⟨q, 2, none⟩) l2).trans y2
              have z2 := (hSw.cell (p := ⟨a1, k * 3 + 2, none⟩) lk).trans vk
              try simp only [List.getElem_toArray, List.getElem_cons_zero, List.getElem_cons_succ]
              go_simp
              exact rfl
            try simp only [Act.put, List.setIfInBounds_toArray, List.set_cons_zero, List.set_cons_succ, List.getElem_toArray, List.getElem_cons_zero, List.getElem_cons_succ]
            refine mix.D_takeT (i := 6) (v := ?_) rfl (by kernel_rfl) (by kernel_rfl) (fun _ _ _ h => h) (Or.inl ⟨by first | rfl | simp [Region.wanted, yielded], ?_⟩) hS0 ?_
            rotate_left
            · intro w' hSw
              have z0 := (hSw.cell (p := ⟨q, 0, none⟩) l2).trans y0
              have z1 := (hSw.cell (p := ⟨q, 2, none⟩) l2).trans y2
              have z2 := (hSw.cell (p := ⟨a1, k * 3 + 2, none⟩) lk).trans vk
              try simp only [List.getElem_toArray, List.getElem_cons_zero, List.getElem_cons_succ]
              go_simp
              exact rfl
            try simp only [Act.put, List.setIfInBounds_toArray, List.set_cons_zero, List.set_cons_succ, List.getElem_toArray, List.getElem_cons_zero, List.getElem_cons_succ]
            refine mix.D_takeT (i := 7) (v := ?_) rfl (by kernel_rfl) (by kernel_rfl) (fun _ _ _ h => h) (Or.inl ⟨by first | rfl | simp [Region.wanted, yielded], ?_⟩) hS0 ?_
            rotate_left
            · intro w' hSw
              have z0 := (hSw.cell (p := ⟨q, 0, none⟩) l2).trans y0
              have z1 := (hSw.cell (p := ⟨q, 2, none⟩) l2).trans y2
              have z2 := (hSw.cell (p := ⟨a1, k * 3 + 2, none⟩) lk).trans vk
              try simp only [List.getElem_toArray, List.getElem_cons_zero, List.getElem_cons_succ]
              go_simp
              exact rfl
            try simp only [Act.put, List.setIfInBounds_toArray, List.set_cons_zero, List.set_cons_succ, List.getElem_toArray, List.getElem_cons_zero, List.getElem_cons_succ]
            refine mix.D_takeT (i := 8) (v := ?_) rfl (by kernel_rfl) (by kernel_rfl) (fun _ _ _ h => h) (Or.inl ⟨by first | rfl | simp [Region.wanted, yielded], ?_⟩) hS0 ?_
            rotate_left
            · intro w' hSw
              have z0 := (hSw.cell (p := ⟨q, 0, none⟩) l2).trans y0
              have z1 := (hSw.cell (p := ⟨q, 2, none⟩) l2).trans y2
              have z2 := (hSw.cell (p := ⟨a1, k * 3 + 2, none⟩) lk).trans vk
              try simp only [List.getElem_toArray, List.getElem_cons_zero, List.getElem_cons_succ]
              go_simp
              exact rfl
            try simp only [Act.put, List.setIfInBounds_toArray, List.set_cons_zero, List.set_cons_succ, List.getElem_toArray, List.getElem_cons_zero, List.getElem_cons_succ]
            refine mix.D_takeT (i := 9) (v := ?_) rfl (by kernel_rfl) (by kernel_rfl) (fun _ _ _ h => h) (Or.inl ⟨by first | rfl | simp [Region.wanted, yielded], ?_⟩) hS0 ?_
            rotate_left
            · intro w' hSw
              have z0 := (hSw.cell (p := ⟨q, 0, none⟩) l2).trans y0
              have z1 := (hSw.cell (p := ⟨q, 2, none⟩) l2).trans y2
              have z2 := (hSw.cell (p := ⟨a1, k * 3 + 2, none⟩) lk).trans vk
              try simp only [List.getElem_toArray, List.getElem_cons_zero, List.getElem_cons_succ]
              go_simp
              exact rfl
            try simp only [Act.put, List.setIfInBounds_toArray, List.set_cons_zero, List.set_cons_succ, List.getElem_toArray, List.getElem_cons_zero, List.getElem_cons_succ]
            refine mix.D_takeT (i := 10) (v := ?_) rfl (by kernel_rfl) (by kernel_rfl) (fun _ _ _ h => h) (Or.inl ⟨by first | rfl | simp [Region.wanted, yielded], ?_⟩) hS0 ?_
            rotate_left
            · intro w' hSw
              have z0 := (hSw.cell (p := ⟨q, 0, none⟩) l2).trans y0
              have z1 := (hSw.cell (p := ⟨q, 2, none⟩) l2).trans y2
              have z2 := (hSw.cell (p := ⟨a1, k * 3 + 2, none⟩) lk).trans vk
              try simp only [List.getElem_toArray, List.getElem_cons_zero, List.getElem_cons_succ]
              go_simp
              exact rfl
            try simp only [Act.put, List.setIfInBounds_toArray, List.set_cons_zero, List.set_cons_succ, List.getElem_toArray, List.getElem_cons_zero, List.getElem_cons_succ]
            refine mix.D_op (k := 11) rfl rfl (by kernel_rfl) (fun K' hK => ?_)
            simp only [List.getElem_toArray, List.getElem_cons_zero, List.getElem_cons_succ]
            have v2 := (hS0.cell (p := ⟨a1, k * 3 + 2, none⟩) lk).trans vk
            go_wp2_with fail
            refine hK.out _ _ (fun h => by simp at h) ?_
            clear hK K'
            try simp only [Act.put, List.setIfInBounds_toArray, List.set_cons_zero, List.set_cons_succ]
            refine mix.D_done (by kernel_rfl) ?_ _
            try simp only [Act.put, List.setIfInBounds_toArray, List.set_cons_zero, List.set_cons_succ, List.getElem_toArray, List.getElem_cons_zero, List.getElem_cons_succ]
            obtain ⟨h3, k3⟩ := (h2.below hS0).store (k * 3 + 2) (.int .i64 (cc + xc)) (ac' := sums ac (ps.take (j + 1))) (by rw [cellsJ_set2 _ hks, HSM.out]; unfold addL; simp only [Int.toNat_natCast]; rw [HCC.out]) (by rw [sums_len, sums_len])
            have hlo := h2.low
            have b3 : Below w.heap.size w (wd.setCell ⟨a1, k * 3 + 2, none⟩ (.int .i64 (cc + xc))) := (hbW2.trans (hS0.mono hbW2.size)).trans (k3.below (fun k hk => by rw [hk]; exact hlo) (by have := hbW2.size; have := hS0.size; omega))
            have HR9 : Hid (Ac (wd.setCell ⟨a1, k * 3 + 2, none⟩ (.int .i64 (cc + xc))) w.heap.size a1 k1 (sums ac (ps.take (j + 1))) ∧ Below w.heap.size w (wd.setCell ⟨a1, k * 3 + 2, none⟩ (.int .i64 (cc + xc))) ∧ (ps.take (j + 1)).all (mayB ac) = true) := powers.lay ⟨h3, b3, HAL.out HM.out⟩
            generalize wd.setCell ⟨a1, k * 3 + 2, none⟩ (.int .i64 (cc + xc)) = W9 at *
            clear h3 k3 b3 HR
            go_wp2_with fail
            exact ⟨⟨j + 1, by go_num, hlt, HR9⟩, by first | (simp [RowKit.intOf]; done) | (simp [RowKit.intOf]; omega) | omega⟩
          · rw [Bool.eq_false_iff.2 hm] at cM
            have HF : Hid (settledP ac ps = none) := powers.lay (by
              unfold settledP
              exact if_neg fun hh => hm (List.all_eq_true.1 hh.1 _ HIN.out))
            clear hm hmb hin
            go_wp2_with fail
            refine cM.mono ?_
            rintro e W2 ⟨rfl, b2⟩
            have hbW2 := hbW.trans (b2.mono hbW.size)
            clear cM
            go_wp2_with fail
            refine bodyPost_ret (v := .tuple #[.slice none 0 0, .bool false]) (by simp [results, Try.results154, go_sem]) rfl ⟨hbW2, .inl ⟨HF.out, rfl⟩⟩
        · obtain rfl : pn = j := by omega
          have HR2 : Hid (Ac wr w.heap.size a1 k1 (sums ac ps) ∧ Below w.heap.size w wr ∧ ps.all (mayB ac) = true) := powers.lay (by
            have := HR.out
            rw [List.take_of_length_le (by rw [HPN.out]; exact Nat.le_refl _)] at this
            exact this)
          clear HR
          have hPw := HP.out.agree (Agree.of_below HR2.out.2.1 hF)
          have cO := overlap_ok ps A cp F wr hPw.2.2.2.1 hPw.2.2.1 hPw.1 hPw.2.1 (fun p hp => by
            obtain ⟨⟨m1, m2⟩, m3, m4, m5⟩ := mayB_iff.1 (List.all_eq_true.1 HR2.out.2.2 p hp)
            have := HU.out p.a.toNat (by omega)
            exact ⟨m3, m4, by omega⟩)
          rw [HPN.out] at cO
          by_cases hpw : ps.Pairwise Disj
          · have HS : Hid (settledP ac ps = some ((sums ac ps).map freeT)) := powers.lay (by unfold settledP; exact if_pos ⟨HR2.out.2.2, hpw⟩)
            rw [decide_eq_true hpw] at cO
            change Calls _ _ _ _ (fun e w' => e = .returned (.bool false) ∧ _) at cO
            clear hpw hPw
            go_wp2_with fail
            refine cO.mono ?_
            rintro e W2 ⟨rfl, b2⟩
            clear cO
            have HR3 : Hid (Ac W2 w.heap.size a1 k1 (mapTo freeT (sums ac ps) 0) ∧ Below w.heap.size w W2) := powers.lay ⟨by rw [mapTo_zero]; exact HR2.out.1.below b2, HR2.out.2.1.trans (b2.mono HR2.out.2.1.size)⟩
            clear HR2 b2
            go_wp2_with fail
            go_loopw [50] (fun i wx => ∃ j : Nat, i = .int .i64 (j : Int) ∧ j ≤ n ∧ Hid (Ac wx w.heap.size a1 k1 (mapTo freeT (sums ac ps) j) ∧ Below w.heap.size w wx)) (fun i _ => n - (RowKit.intOf i).toNat)
            case atStart => exact ⟨0, rfl, Nat.zero_le _, HR3⟩
            case round =>
              clear HR3
              obtain ⟨j, rfl, hj, HR⟩ := hrel
              have e1 : IntKind.i64.wrap ((j : Int) + 1) = (j : Int) + 1 := IntWalk.i64_in _ (by omega)
              by_cases hlt : j < n
              · have hjs : j < (sums ac ps).length := by rw [sums_len, HN.out]; exact hlt
                have hjm : j < (mapTo freeT (sums ac ps) j).length := by rw [mapTo_len]; exact hjs
                obtain ⟨x0, x1, x2⟩ := HR.out.1.cells hjm
                rw [mapTo_at freeT (sums ac ps) hjs] at x0 x1 x2
                have HST := powers.lay (mapTo_stay freeT (sums ac ps) hjs)
                have HSE := powers.lay (mapTo_set freeT (sums ac ps) hjs)
                have hcap := HR.out.1.cap
                rw [mapTo_len, sums_len, HN.out] at hcap
                generalize at3 (sums ac ps) j = x at *
                obtain ⟨xa, xb, xc⟩ := x
                simp only [] at x0 x1 x2
                have kA := Blk.new wr 194 #[.int .i64 xa, .int .i64 xb, .int .i64 xc]
                have bA : Below wr.heap.size wr (wr.alloc (.cells #[.int .i64 xa, .int .i64 xb, .int .i64 xc] 194)) := (Below.refl _ _).alloc (Nat.le_refl _) _
                have lZ : wr.heap.size < (wr.alloc (.cells #[.int .i64 xa, .int .i64 xb, .int .i64 xc] 194)).heap.size := by simp
                obtain ⟨WA, hWA⟩ : ∃ WA, wr.alloc (.cells #[.int .i64 xa, .int .i64 xb, .int .i64 xc] 194) = WA := ⟨_, rfl⟩
                rw [hWA] at kA bA lZ
                have hAc := HR.out.1.below bA
                have hbW : Below w.heap.size w WA := HR.out.2.trans (bA.mono HR.out.2.size)
                obtain ⟨y0, y1, y2⟩ := kA.c3
                have fb0 := kA.frozen 0
                have fb1 := kA.frozen 1
                have fb2 := kA.frozen 2
                by_cases hx : xa = 2 ∧ xc = 0
                · have hfe := free_yes (x := ⟨xa, xb, xc⟩) hx
                  have d1 : decide (xa = 2) = true := decide_eq_true hx.1
                  have d2 : (xa == 2) = true := by simp [hx.1]
                  have d3 : decide (xc = 0) = true := decide_eq_true hx.2
                  have d4 : (xc == 0) = true := by simp [hx.2]
                  clear hx
                  have HFE := powers.lay hfe
                  obtain ⟨v0, v1, v2⟩ := hAc.cells hjm
                  have f0 := World.ownsRow.frozenAt hAc (j * 3)
                  have f1 := World.ownsRow.frozenAt hAc (j * 3 + 1)
                  have f2 := World.ownsRow.frozenAt hAc (j * 3 + 2)
                  generalize at3 (mapTo freeT (sums ac ps) j) j = tt at *
                  clear hfe
                  go_wp2_with fail
                  obtain ⟨h3, k3⟩ := hAc.store3 hjm ⟨1, 0, 0⟩
                  have hlo := hAc.low
                  have b3 := hbW.trans (k3.below (fun k hk => by rw [hk]; exact hlo) hbW.size)
                  have hs9 : (mapTo freeT (sums ac ps) j).set j ⟨1, 0, 0⟩ = mapTo freeT (sums ac ps) (j + 1) := by rw [← HFE.out]; exact HSE.out
                  rw [hs9] at h3
                  go_roundw
                  case rel => exact ⟨j + 1, by go_num, hlt, powers.lay ⟨h3, b3⟩⟩
                  case measure => first | (simp [RowKit.intOf]; done) | (simp [RowKit.intOf]; omega) | omega
                · have hfe := free_no (x := ⟨xa, xb, xc⟩) hx
                  have HR4 : Hid (Ac WA w.heap.size a1 k1 (mapTo freeT (sums ac ps) (j + 1)) ∧ Below w.heap.size w WA) := powers.lay ⟨by rw [HST.out hfe]; exact hAc, hbW⟩
                  clear hfe
                  by_cases h2 : xa = 2
                  · subst h2
                    have h0 : ¬ xc = 0 := fun e => hx ⟨rfl, e⟩
                    have d1 : decide (xc = 0) = false := decide_eq_false h0
                    have d2 : (xc == 0) = false := by simp [h0]
                    clear hx h0
                    go_wp2_with fail
                    go_roundw
                    case rel => exact ⟨j + 1, by go_num, hlt, HR4⟩
                    case measure => first | (simp [RowKit.intOf]; done) | (simp [RowKit.intOf]; omega) | omega
                  · have d1 : decide (xa = 2) = false := decide_eq_false h2
                    have d2 : (xa == 2) = false := by simp [h2]
                    clear hx h2
                    go_wp2_with fail
                    go_roundw
                    case rel => exact ⟨j + 1, by go_num, hlt, HR4⟩
                    case measure => first | (simp [RowKit.intOf]; done) | (simp [RowKit.intOf]; omega) | omega
              · obtain rfl : n = j := by omega
                have hfin := HR.out.1
                have hlm : (mapTo freeT (sums ac ps) n).length = n := by rw [mapTo_len, sums_len, HN.out]
                have hall : mapTo freeT (sums ac ps) n = (sums ac ps).map freeT := by rw [← mapTo_all]; congr 1; rw [sums_len, HN.out]
                rw [hall] at hfin hlm
                have HL := powers.lay hlm
                have hfb := HR.out.2
                clear HR hlm hall
                go_wp2_with fail
                refine bodyPost_ret (v := .tuple #[.slice (some ⟨a1, 0, none⟩) n k1, .bool true]) (by simp [results, Try.results154, go_sem]) rfl ⟨hfb, .inr ⟨_, a1, k1, HS.out, by rw [HL.out, HN.out], by rw [HL.out], hfin⟩⟩
          · have HF : Hid (settledP ac ps = none) := powers.lay (by unfold settledP; exact if_neg fun hh => hpw hh.2)
            rw [decide_eq_false hpw] at cO
            change Calls _ _ _ _ (fun e w' => e = .returned (.bool true) ∧ _) at cO
            clear hpw hPw
            go_wp2_with fail
            refine cO.mono ?_
            rintro e W2 ⟨rfl, b2⟩
            have hbW2 := HR2.out.2.1.trans (b2.mono HR2.out.2.1.size)
            clear cO
            go_wp2_with fail
            refine bodyPost_ret (v := .tuple #[.slice none 0 0, .bool false]) (by simp [results, Try.results154, go_sem]) rfl ⟨hbW2, .inl ⟨HF.out, rfl⟩⟩

end Go.Proofs.Ytoenkkbcpafanaa.segs

/- Settle, Begin and New. -/

namespace Go.Proofs.Ytoenkkbcpafanaa.segs
set_option linter.unusedVariables false
set_option linter.unusedSimpArgs false
open Go.RowKit Go.Shelf Go.Proofs.Ytoenkkbcpafanaa.base Go.Proofs.Ytoenkkbcpafanaa.trees Go.Proofs.Ytoenkkbcpafanaa.powers Go.Proofs.Ytoenkkbcpafanaa.mediums Go.Lib

/-- right, but for what is live -/
structure OkP (q : Nat) (ac : List T3) : Prop where
  len : 1 ≤ ac.length ∧ ac.length ≤ 4096
  o : q < ac.length
  kind : ∀ i, i < ac.length → ((at3 ac i).a = 1 ∨ (at3 ac i).a = 2 ∨ (at3 ac i).a = 3) ∧ ((at3 ac i).a = 3 ↔ i = q)
  used : ∀ i, i < ac.length → 0 ≤ (at3 ac i).b ∧ (at3 ac i).b ≤ 1048576
  free : ∀ i, i < ac.length → (at3 ac i).a = 1 → (at3 ac i).b = 0
theorem OkL.p {s : LS} (h : OkL s) : OkP s.o s.ac := ⟨h.len, h.o, h.kind, h.used, fun i hi e => (h.free i hi e).1⟩
theorem settled_at {ac ps ac' : List T3} (h : settledP ac ps = some ac') : ac'.length = ac.length ∧ (ps.all (mayB ac) = true ∧ ps.Pairwise Disj) ∧ ∀ i, i < ac.length → at3 ac' i = freeT ⟨(at3 ac i).a, (at3 ac i).b, liveIn ps i⟩ := by
  unfold settledP at h
  split at h
  · rename_i hh
    have e := Option.some.inj h
    subst e
    refine ⟨by rw [List.length_map, sums_len], hh, fun i hi => ?_⟩
    rw [at3_map (by rw [sums_len]; exact hi)]
    congr 1
    have h1 := sums_ab ac ps i
    have h2 := sums_c ac ps i hi
    rw [← h1.1, ← h1.2, ← h2]
  · cases h
theorem OkP.settled {o : Nat} {ac ps ac' : List T3} (h : OkP o ac) (hl : ps.length * 24 ≤ 140737488355328) (hs : settledP ac ps = some ac') : OkL ⟨o, ac'⟩ := by
  obtain ⟨e, ⟨hm, hd⟩, ha⟩ := settled_at hs
  have hlv : ∀ i, 0 ≤ liveIn ps i ∧ liveIn ps i ≤ (ps.length : Int) * 1048576 := fun i => by
    have := liveIn_take_le (j := ps.length) (by rw [List.take_length]; exact hm) h.used (Nat.le_refl _) i
    rw [List.take_length] at this
    exact this
  have h1 : ∀ p ∈ ps, 1 ≤ p.c := fun p hp => (mayB_iff.1 (List.all_eq_true.1 hm p hp)).2.2.1
  refine ⟨by show 1 ≤ ac'.length ∧ _; rw [e]; exact h.len, by show o < ac'.length; rw [e]; exact h.o, fun i hi => ?_, fun i hi => ?_, fun i hi => ?_, fun i hi => ?_⟩ <;>
    (replace hi : i < ac'.length := hi) <;> rw [e] at hi <;> (show _; dsimp only) <;> rw [ha i hi]
  · have hk := h.kind i hi
    by_cases hf : (at3 ac i).a = 2 ∧ liveIn ps i = 0
    · rw [free_yes hf]
      exact ⟨.inl rfl, fun e => by simp at e, fun e => by have := hk.2.2 e; omega⟩
    · rw [free_no hf]; exact hk
  · by_cases hf : (at3 ac i).a = 2 ∧ liveIn ps i = 0
    · rw [free_yes hf]; simp
    · rw [free_no hf]; exact h.used i hi
  · by_cases hf : (at3 ac i).a = 2 ∧ liveIn ps i = 0
    · rw [free_yes hf]; simp
    · rw [free_no hf]; have := hlv i; dsimp only; omega
  · by_cases hf : (at3 ac i).a = 2 ∧ liveIn ps i = 0
    · rw [free_yes hf]; simp
    · rw [free_no hf]
      intro ek
      have hb := h.free i hi ek
      refine ⟨hb, (liveIn_pos h1).2 fun p hp hpi => ?_⟩
      obtain ⟨_, m3, m4, m5⟩ := mayB_iff.1 (List.all_eq_true.1 hm p hp)
      rw [hpi, hb] at m5
      omega
section
variable {w w' : World} {S : Nat → Prop} {p g lg ab c : Nat} {m : MS} {s : LS} {L W : Int}
theorem LgAt.ac (h : LgAt w g lg ab c s) : Ac w 0 ab c s.ac := h.row
/-- what Settle leaves -/
def SePost (g lg ab c : Nat) (s : LS) (ps : List T3) (w : World) (e : Ending) (w' : World) : Prop :=
  (settledP s.ac ps = none ∧ e = .returned (.int .i64 121) ∧ Below w.heap.size w w') ∨
  (∃ ac' ab' c', settledP s.ac ps = some ac' ∧ e = .returned (.int .i64 0) ∧ LgAt w' g lg ab' c' ⟨s.o, ac'⟩ ∧ Keep (fun k => k = lg) w w' ∧ w.heap.size ≤ ab')

set_option maxRecDepth 100000 in
set_option maxHeartbeats 4000000 in
theorem settle_ok (h : LgAt w g lg ab c s) (ps : List T3) (A : Option Addr) (cp : Nat) (F : Nat → Prop) (hF : ∀ k, F k → k < w.heap.size) (hP : PsF w F ps A cp) :
    Calls Try.prog 91 #[.pointer (some ⟨lg, 0, none⟩), .slice A ps.length cp] w (SePost g lg ab c s ps w) := by
  have cS := settled_ok h.ac h.ok.len h.ok.used ps A cp F hF hP
  have hps := hP.2.1
  obtain ⟨x0, x1, x2⟩ := h.x
  obtain ⟨l1, l2⟩ := h.lt
  have HH := powers.lay h
  clear hP h
  obtain ⟨pn, hpn⟩ : ∃ pn, ps.length = pn := ⟨_, rfl⟩
  have HPN := powers.lay hpn
  rw [hpn] at cS hps ⊢
  clear hpn
  go_enter Try.func91, Try.ntmps91
  go_wp2_with fail
  refine cS.mono ?_
  rintro e w1 ⟨b1, ⟨hn, rfl⟩ | ⟨ac', a1, k1, hs, hl, rfl, hr⟩⟩
  · have HN := powers.lay hn
    clear cS hn
    go_wp2_with fail
    go_ret
    exact .inl ⟨HN.out, rfl, b1⟩
  · have hd := HH.out.head.below b1 l1
    have f2 := hd.frozen 2
    have y2 := hd.cell 2
    simp only [List.getElem?_toArray, List.getElem?_cons_zero, List.getElem?_cons_succ] at y2
    have HS := powers.lay hs
    have HR := powers.lay hr
    have HL := powers.lay hl
    have hlo := hr.low
    clear cS hs hr hl x0 x1 x2
    go_wp2_with fail
    have hd2 := hd.put 2 (.slice (some ⟨a1, 0, none⟩) ac'.length k1)
    simp only [List.setIfInBounds_toArray, List.set_cons_zero, List.set_cons_succ] at hd2
    have kk := grown_keep (grown_set w1 lg 2 (.slice (some ⟨a1, 0, none⟩) ac'.length k1))
    have hne : a1 ≠ lg := by have := l1; have := hlo; omega
    have hr2 : Ac (w1.setCell ⟨lg, 2, none⟩ (.slice (some ⟨a1, 0, none⟩) ac'.length k1)) 0 a1 k1 ac' := ownsRow_base (HR.out.keep kk hne) fun g _ => Nat.zero_le _
    have kw : Keep (fun k => k = lg) w (w1.setCell ⟨lg, 2, none⟩ (.slice (some ⟨a1, 0, none⟩) ac'.length k1)) := (Keep.of_below b1).trans kk fun k hk _ => hk
    go_ret
    exact .inr ⟨ac', a1, k1, HS.out, rfl, ⟨hd2, hr2, hne, HH.out.ok.p.settled (by rw [HPN.out]; exact hps) HS.out⟩, kw, hlo⟩

/-- a list that is filled one by one -/
def filled (f : Nat → T3) (n j : Nat) : List T3 := (List.range j).map f ++ List.replicate (n - j) zT
theorem filled_zero (f : Nat → T3) (n : Nat) : filled f n 0 = List.replicate n zT := rfl
theorem filled_all (f : Nat → T3) (n : Nat) : filled f n n = (List.range n).map f := by unfold filled; rw [Nat.sub_self]; simp
theorem filled_len (f : Nat → T3) {n j : Nat} (hj : j ≤ n) : (filled f n j).length = n := by unfold filled; rw [List.length_append, List.length_map, List.length_range, List.length_replicate]; omega
theorem filled_at (f : Nat → T3) {n j : Nat} (hj : j < n) : at3 (filled f n j) j = zT := by
  unfold filled at3
  rw [List.getElem?_append_right (by rw [List.length_map, List.length_range]; omega), List.length_map, List.length_range, Nat.sub_self, List.getElem?_replicate, if_pos (by omega)]
  rfl
theorem filled_set (f : Nat → T3) {n j : Nat} (hj : j < n) : (filled f n j).set j (f j) = filled f n (j + 1) := by
  unfold filled
  rw [List.set_append, if_neg (by rw [List.length_map, List.length_range]; omega), List.length_map, List.length_range, Nat.sub_self, List.range_succ, List.map_append, List.append_assoc, show n - j = (n - (j + 1)) + 1 by omega, List.replicate_succ, List.set_cons_zero]
  rfl
theorem range_at (f : Nat → T3) {n i : Nat} (hi : i < n) : at3 ((List.range n).map f) i = f i := by
  unfold at3
  rw [List.getElem?_map, List.getElem?_range hi]
  rfl
theorem made_zeros (n : Nat) : (madeCells #[.int .i64 0, .int .i64 0, .int .i64 0] (n * 3)).toList = cellsJ (List.replicate n zT) := by
  have e1 : madeCells #[Value.int .i64 0, .int .i64 0, .int .i64 0] (n * 3) = (List.replicate (n * 3) (Value.int .i64 0)).toArray := by
    apply Array.ext'
    simp only [madeCells, Array.toList_map, Array.toList_range]
    apply List.ext_getElem
    · simp
    · intro i h1 h2
      have hm : i % 3 = 0 ∨ i % 3 = 1 ∨ i % 3 = 2 := by omega
      rcases hm with hm | hm | hm <;> simp [hm]
  rw [e1]
  have e2 : ∀ n, cellsJ (List.replicate n zT) = List.replicate (n * 3) (Value.int .i64 0) := fun n => by
    induction n with
    | zero => rfl
    | succ n ih => rw [List.replicate_succ, cellsJ, ih, show (n + 1) * 3 = n * 3 + 1 + 1 + 1 by omega, List.replicate_succ, List.replicate_succ, List.replicate_succ]; rfl
  rw [e2]
def newL (n : Nat) : LS := ⟨0, ((List.range n).map fun _ => ⟨1, 0, 0⟩).set 0 ⟨3, 0, 0⟩⟩
theorem newL_at {n i : Nat} (hn : 1 ≤ n) (hi : i < n) : at3 (newL n).ac i = if i = 0 then ⟨3, 0, 0⟩ else ⟨1, 0, 0⟩ := by
  unfold newL
  by_cases h : i = 0
  · subst h; rw [at3_set _ (by simp; omega), if_pos rfl]
  · rw [at3_ne _ (fun e => h e.symm), range_at _ hi, if_neg h]
theorem newL_len (n : Nat) : (newL n).ac.length = n := by unfold newL; simp
theorem newL_ok {n : Nat} (hn : 1 ≤ n ∧ n ≤ 4096) : OkL (newL n) := by
  refine ⟨by rw [newL_len]; exact hn, by rw [newL_len]; exact hn.1, fun i hi => ?_, fun i hi => ?_, fun i hi => ?_, fun i hi => ?_⟩ <;> rw [newL_len] at hi <;> rw [newL_at hn.1 hi]
  · show _ ∧ (_ ↔ i = 0)
    split
    · rename_i h; simp [h]
    · rename_i h; simp [h]
  · split <;> simp
  · split <;> simp
  · split <;> simp

theorem mk_ac {n : Nat} (hn : 1 ≤ n ∧ n ≤ 4096) : ∃ M : Array Value, (∀ u : World, (Instr.makeSlice 128 (.int .i64 (n : Int)) (.int .i64 (n : Int))).run Try.prog u = .ok (.slice (some ⟨u.heap.size, 0, none⟩) n n) (u.alloc (.cells M 194))) ∧
    ∀ (u : World) (base : Nat), base ≤ u.heap.size → (u.alloc (.cells M 194)).ownsRow base 194 3 (.slice (some ⟨u.heap.size, 0, none⟩) n n) n (cellsJ (List.replicate n zT)) := by
  obtain ⟨i0, hi0, hz0, hz1, hz2⟩ := @info_parts _ _ _ _ _ infoAc
  refine ⟨madeCells (Value.agg #[.int .i64 0, .int .i64 0, .int .i64 0]).cells (n * i0.size), fun u => ?_, fun u base hb => ?_⟩
  · have h := run_make (P := Try.prog) u 128 194 i0 _ Try.underlying128 hi0 hz0 .i64 .i64 (n : Int) (n : Int) (by omega) (Int.le_refl _) (by rw [hz2]; omega) (by omega)
    simpa using h
  · have h := World.ownsRow_lit (base := base) (e := 194) (size := 3) u (madeCells (Value.agg #[.int .i64 0, .int .i64 0, .int .i64 0]).cells (n * i0.size)) n hb (by unfold maxLen; omega) (by rw [hz1]; exact size_madeCells _ _)
    rw [hz1] at h ⊢
    rw [← made_zeros]
    exact h

set_option maxRecDepth 100000 in
set_option maxHeartbeats 4000000 in
theorem new_ok (hM : Md w S p g m) : Calls Try.prog 25 #[.pointer (some ⟨g, 0, none⟩)] w fun e w' => ∃ lg ab c, e = .returned (.pointer (some ⟨lg, 0, none⟩)) ∧ LgAt w' g lg ab c (newL m.segs.length) ∧ Below w.heap.size w w' ∧ w.heap.size ≤ lg ∧ w.heap.size ≤ ab := by
  obtain ⟨sb, vs, vp, hM'⟩ := id hM
  have cG := segments_ok hM'
  have hsl := hM.seglen
  rw [show vs.length = m.segs.length from hM'.len] at cG
  generalize m.segs.length = n at *
  obtain ⟨M, hmk, hrow⟩ := mk_ac hsl
  have h0 := hrow w w.heap.size (Nat.le_refl _)
  have b0 : Below w.heap.size w (w.alloc (.cells M 194)) := (Below.refl _ _).alloc (Nat.le_refl _) _
  have s0 : (w.alloc (.cells M 194)).heap.size = w.heap.size + 1 := by simp
  obtain ⟨W1, hW1⟩ : ∃ W1, w.alloc (.cells M 194) = W1 := ⟨_, rfl⟩
  rw [hW1] at h0 b0 s0
  have hHd : Blk (W1.alloc (.cells #[.pointer (some ⟨g, 0, none⟩), .int .i64 0, .slice (some ⟨w.heap.size, 0, none⟩) n n] 130)) W1.heap.size 130 #[.pointer (some ⟨g, 0, none⟩), .int .i64 0, .slice (some ⟨w.heap.size, 0, none⟩) n n] := Blk.new _ _ _
  have b1 : Below w.heap.size w (W1.alloc (.cells #[.pointer (some ⟨g, 0, none⟩), .int .i64 0, .slice (some ⟨w.heap.size, 0, none⟩) n n] 130)) := b0.alloc b0.size _
  have h1 := row_below h0 ((Below.refl W1.heap.size W1).alloc (Nat.le_refl _) (.cells #[.pointer (some ⟨g, 0, none⟩), .int .i64 0, .slice (some ⟨w.heap.size, 0, none⟩) n n] 130))
  obtain ⟨W2, hW2⟩ : ∃ W2, W1.alloc (.cells #[.pointer (some ⟨g, 0, none⟩), .int .i64 0, .slice (some ⟨w.heap.size, 0, none⟩) n n] 130) = W2 := ⟨_, rfl⟩
  rw [hW2] at hHd b1 h1
  rw [s0] at hHd
  clear hM hM' hrow h0 b0
  have HMK := powers.lay hmk
  have y0 := hHd.cell 0
  have y1 := hHd.cell 1
  have y2 := hHd.cell 2
  simp only [List.getElem?_toArray, List.getElem?_cons_zero, List.getElem?_cons_succ] at y0 y1 y2
  go_enter Try.func25, Try.ntmps25
  go_wp2_with (go_at_call 59; refine cG.mono ?_; rintro e w ⟨rfl, rfl⟩)
  have l1 := hHd.lt
  obtain ⟨a1, ha1⟩ : ∃ a1, w.heap.size = a1 := ⟨_, rfl⟩
  obtain ⟨lg, hlg⟩ : ∃ lg, w.heap.size + 1 = lg := ⟨_, rfl⟩
  have HLG := powers.lay hlg
  have HA1 := powers.lay ha1
  rw [hlg] at hHd y0 y1 y2 l1 ⊢
  rw [ha1] at hHd y2 h1 b1 hlg ⊢
  have hne : a1 ≠ lg := by omega
  have hne2 : lg ≠ a1 := by omega
  have hA0 : Ac W2 a1 a1 n (List.replicate n zT) := by unfold Ac; rw [List.length_replicate]; exact h1
  have HS : Hid (Ac W2 a1 a1 n (mapTo (fun x => ⟨1, x.b, x.c⟩) (List.replicate n zT) 0) ∧ Blk W2 lg 130 #[.pointer (some ⟨g, 0, none⟩), .int .i64 0, .slice (some ⟨a1, 0, none⟩) n n] ∧ Below a1 w W2) := powers.lay ⟨by rw [mapTo_zero]; exact hA0, hHd, b1⟩
  clear hmk hW1 hW2 HMK s0 h1 b1 hHd y0 y1 y2 l1 hA0 cG ha1 hlg
  go_loopw [18] (fun i wr => ∃ j : Nat, i = .int .i64 (j : Int) ∧ j ≤ n ∧ Hid (Ac wr a1 a1 n (mapTo (fun x => ⟨1, x.b, x.c⟩) (List.replicate n zT) j) ∧ Blk wr lg 130 #[.pointer (some ⟨g, 0, none⟩), .int .i64 0, .slice (some ⟨a1, 0, none⟩) n n] ∧ Below a1 w wr)) (fun i _ => n - (RowKit.intOf i).toNat)
  case atStart => exact ⟨0, rfl, Nat.zero_le _, HS⟩
  case round =>
    clear HS
    obtain ⟨j, rfl, hj, HR⟩ := hrel
    have e1 : IntKind.i64.wrap ((j : Int) + 1) = (j : Int) + 1 := IntWalk.i64_in _ (by omega)
    have y0 := HR.out.2.1.cell 0
    have y1 := HR.out.2.1.cell 1
    have y2 := HR.out.2.1.cell 2
    simp only [List.getElem?_toArray, List.getElem?_cons_zero, List.getElem?_cons_succ] at y0 y1 y2
    by_cases hlt : j < n
    · have hja : j < (List.replicate n zT).length := by rw [List.length_replicate]; exact hlt
      have hjm : j < (mapTo (fun x => ⟨1, x.b, x.c⟩) (List.replicate n zT) j).length := by rw [mapTo_len]; exact hja
      have v0 := (HR.out.1.cells hjm).1
      have f0 := World.ownsRow.frozenAt HR.out.1 (j * 3)
      generalize (at3 (mapTo (fun x => ⟨1, x.b, x.c⟩) (List.replicate n zT) j) j).a = tv at v0
      go_wp2_with fail
      obtain ⟨h2, k2⟩ := HR.out.1.store (j * 3) (.int .i64 1) (ac' := mapTo (fun x => ⟨1, x.b, x.c⟩) (List.replicate n zT) (j + 1)) (by rw [cellsJ_set0 _ hjm, mapTo_at _ _ hja, ← mapTo_set _ _ hja]) (by rw [mapTo_len, mapTo_len])
      have b2 : Below a1 w (wr.setCell ⟨a1, j * 3, none⟩ (.int .i64 1)) := HR.out.2.2.trans (k2.below (fun k hk => by omega) (by have := HR.out.2.2.size; have := HA1.out; omega))
      have d2 := k2.blk HR.out.2.1 hne2
      go_roundw
      case rel => exact ⟨j + 1, by go_num, hlt, powers.lay ⟨h2, d2, b2⟩⟩
      case measure => first | (simp [RowKit.intOf]; done) | (simp [RowKit.intOf]; omega) | omega
    · obtain rfl : n = j := by omega
      have hmap : mapTo (fun x => ⟨1, x.b, x.c⟩) (List.replicate n zT) n = (List.range n).map fun _ => ⟨1, 0, 0⟩ := by
        have e := mapTo_all (fun x : T3 => (⟨1, x.b, x.c⟩ : T3)) (List.replicate n zT)
        rw [List.length_replicate] at e
        rw [e]
        apply List.ext_getElem
        · simp
        · intro i h1 h2; simp
      have hA := HR.out.1
      rw [hmap] at hA
      have hlen : ((List.range n).map fun _ => (⟨1, 0, 0⟩ : T3)).length = n := by simp
      have h0n : 0 < ((List.range n).map fun _ => (⟨1, 0, 0⟩ : T3)).length := by rw [hlen]; omega
      have v0 := (hA.cells h0n).1
      have f0 := World.ownsRow.frozenAt hA (0 * 3)
      have l1 := HR.out.2.1.lt
      have l2 := hA.lt
      generalize (at3 ((List.range n).map fun _ => (⟨1, 0, 0⟩ : T3)) 0).a = tv at v0
      have q0 : 0 < n := by omega
      have q1 : (0 : Int) < (n : Int) := by omega
      go_upto_region 9 with (fail)
      have hS0 : Below wr.heap.size wr wr.drew := (Below.refl _ _).drew
      have ff : wr.drew.frozen? ⟨a1, 0, none⟩ = false := f0
      have v0' : wr.cell? ⟨a1, 0, none⟩ = some (.int .i64 tv) := v0
      refine mix.region_D (fun w' => Below wr.heap.size wr w') (fun j => j == 10) (by kernel_rfl) ?_
      generalize wr.drew = wd at hS0 ff ⊢
      refine mix.D_takeT (i := 0) (v := ?_) rfl (by kernel_rfl) (by kernel_rfl) (fun _ _ _ h => h) (Or.inl ⟨by first | rfl | simp [Region.wanted, yielded], ?_⟩) hS0 ?_
      rotate_left
      · intro w' hSw
        have z1 := (hSw.cell (p := ⟨lg, 1, none⟩) l1).trans y1
        have z2 := (hSw.cell (p := ⟨lg, 2, none⟩) l1).trans y2
        try simp only [List.getElem_toArray, List.getElem_cons_zero, List.getElem_cons_succ]
        go_simp
        exact rfl
      try simp only [Act.put, List.setIfInBounds_toArray, List.set_cons_zero, List.set_cons_succ, List.getElem_toArray, List.getElem_cons_zero, List.getElem_cons_succ]
      refine mix.D_takeT (i := 1) (v := ?_) rfl (by kernel_rfl) (by kernel_rfl) (fun _ _ _ h => h) (Or.inl ⟨by first | rfl | simp [Region.wanted, yielded], ?_⟩) hS0 ?_
      rotate_left
      · intro w' hSw
        have z1 := (hSw.cell (p := ⟨lg, 1, none⟩) l1).trans y1
        have z2 := (hSw.cell (p := ⟨lg, 2, none⟩) l1).trans y2
        try simp only [List.getElem_toArray, List.getElem_cons_zero, List.getElem_cons_succ]
        go_simp
        exact rfl
      try simp only [Act.put, List.setIfInBounds_toArray, List.set_cons_zero, List.set_cons_succ, List.getElem_toArray, List.getElem_cons_zero, List.getElem_cons_succ]
      refine mix.D_takeT (i := 2) (v := ?_) rfl (by kernel_rfl) (by kernel_rfl) (fun _ _ _ h => h) (Or.inl ⟨by first | rfl | simp [Region.wanted, yielded], ?_⟩) hS0 ?_
      rotate_left
      · intro w' hSw
        have z1 := (hSw.cell (p := ⟨lg, 1, none⟩) l1).trans y1
        have z2 := (hSw.cell (p := ⟨lg, 2, none⟩) l1).trans y2
        try simp only [List.getElem_toArray, List.getElem_cons_zero, List.getElem_cons_succ]
        go_simp
        exact rfl
      try simp only [Act.put, List.setIfInBounds_toArray, List.set_cons_zero, List.set_cons_succ, List.getElem_toArray, List.getElem_cons_zero, List.getElem_cons_succ]
      refine mix.D_takeT (i := 3) (v := ?_) rfl (by kernel_rfl) (by kernel_rfl) (fun _ _ _ h => h) (Or.inl ⟨by first | rfl | simp [Region.wanted, yielded], ?_⟩) hS0 ?_
      rotate_left
      · intro w' hSw
        have z1 := (hSw.cell (p := ⟨lg, 1, none⟩) l1).trans y1
        have z2 := (hSw.cell (p := ⟨lg, 2, none⟩) l1).trans y2
        try simp only [List.getElem_toArray, List.getElem_cons_zero, List.getElem_cons_succ]
        go_simp
        exact rfl
      try simp only [Act.put, List.setIfInBounds_toArray, List.set_cons_zero, List.set_cons_succ, List.getElem_toArray, List.getElem_cons_zero, List.getElem_cons_succ]
      refine mix.D_takeT (i := 4) (v := ?_) rfl (by kernel_rfl) (by kernel_rfl) (fun _ _ _ h => h) (Or.inl ⟨by first | rfl | simp [Region.wanted, yielded], ?_⟩) hS0 ?_
      rotate_left
      · intro w' hSw
        have z1 := (hSw.cell (p := ⟨lg, 1, none⟩) l1).trans y1
        have z2 := (hSw.cell (p := ⟨lg, 2, none⟩) l1).trans y2
        try simp only [List.getElem_toArray, List.getElem_cons_zero, List.getElem_cons_succ]
        go_simp
        exact rfl
      try simp only [Act.put, List.setIfInBounds_toArray, List.set_cons_zero, List.set_cons_succ, List.getElem_toArray, List.getElem_cons_zero, List.getElem_cons_succ]
      refine mix.D_takeT (i := 5) (v := ?_) rfl (by kernel_rfl) (by kernel_rfl) (fun _ _ _ h => h) (Or.inl ⟨by first | rfl | simp [Region.wanted, yielded], ?_⟩) hS0 ?_
      rotate_left
      · intro w' hSw
        have z1 := (hSw.cell (p := ⟨lg, 1, none⟩) l1).trans y1
        have z2 := (hSw.cell (p := ⟨lg, 2, none⟩) l1).trans y2
        try simp only [List.getElem_toArray, List.getElem_cons_zero, List.getElem_cons_succ]
        go_simp
        exact rfl
      try simp only [Act.put, List.setIfInBounds_toArray, List.set_cons_zero, List.set_cons_succ, List.getElem_toArray, List.getElem_cons_zero, List.getElem_cons_succ]
      refine mix.D_takeT (i := 6) (v := ?_) rfl (by kernel_rfl) (by kernel_rfl) (fun _ _ _ h => h) (Or.inl ⟨by first | rfl | simp [Region.wanted, yielded], ?_⟩) hS0 ?_
      rotate_left
      · intro w' hSw
        have z1 := (hSw.cell (p := ⟨lg, 1, none⟩) l1).trans y1
        have z2 := (hSw.cell (p := ⟨lg, 2, none⟩) l1).trans y2
        try simp only [List.getElem_toArray, List.getElem_cons_zero, List.getElem_cons_succ]
        go_simp
        exact rfl
      try simp only [Act.put, List.setIfInBounds_toArray, List.set_cons_zero, List.set_cons_succ, List.getElem_toArray, List.getElem_cons_zero, List.getElem_cons_succ]
      refine mix.D_takeT (i := 7) (v := ?_) rfl (by kernel_rfl) (by kernel_rfl) (fun _ _ _ h => h) (Or.inl ⟨by first | rfl | simp [Region.wanted, yielded], ?_⟩) hS0 ?_
      rotate_left
      · intro w' hSw
        have z1 := (hSw.cell (p := ⟨lg, 1, none⟩) l1).trans y1
        have z2 := (hSw.cell (p := ⟨lg, 2, none⟩) l1).trans y2
        try simp only [List.getElem_toArray, List.getElem_cons_zero, List.getElem_cons_succ]
        go_simp
        exact rfl
      try simp only [Act.put, List.setIfInBounds_toArray, List.set_cons_zero, List.set_cons_succ, List.getElem_toArray, List.getElem_cons_zero, List.getElem_cons_succ]
      refine mix.D_takeT (i := 8) (v := ?_) rfl (by kernel_rfl) (by kernel_rfl) (fun _ _ _ h => h) (Or.inl ⟨by first | rfl | simp [Region.wanted, yielded], ?_⟩) hS0 ?_
      rotate_left
      · intro w' hSw
        have z1 := (hSw.cell (p := ⟨lg, 1, none⟩) l1).trans y1
        have z2 := (hSw.cell (p := ⟨lg, 2, none⟩) l1).trans y2
        try simp only [List.getElem_toArray, List.getElem_cons_zero, List.getElem_cons_succ]
        go_simp
        exact rfl
      try simp only [Act.put, List.setIfInBounds_toArray, List.set_cons_zero, List.set_cons_succ, List.getElem_toArray, List.getElem_cons_zero, List.getElem_cons_succ]
      refine mix.D_takeT (i := 9) (v := ?_) rfl (by kernel_rfl) (by kernel_rfl) (fun _ _ _ h => h) (Or.inl ⟨by first | rfl | simp [Region.wanted, yielded], ?_⟩) hS0 ?_
      rotate_left
      · intro w' hSw
        have z1 := (hSw.cell (p := ⟨lg, 1, none⟩) l1).trans y1
        have z2 := (hSw.cell (p := ⟨lg, 2, none⟩) l1).trans y2
        try simp only [List.getElem_toArray, List.getElem_cons_zero, List.getElem_cons_succ]
        go_simp
        exact rfl
      try simp only [Act.put, List.setIfInBounds_toArray, List.set_cons_zero, List.set_cons_succ, List.getElem_toArray, List.getElem_cons_zero, List.getElem_cons_succ]
      refine mix.D_op (k := 10) rfl rfl (by kernel_rfl) (fun K' hK => ?_)
      simp only [List.getElem_toArray, List.getElem_cons_zero, List.getElem_cons_succ]
      have vv := (hS0.cell (p := ⟨a1, 0, none⟩) l2).trans v0'
      go_wp2_with fail
      refine hK.out _ _ (fun h => by simp at h) ?_
      clear hK K'
      try simp only [Act.put, List.setIfInBounds_toArray, List.set_cons_zero, List.set_cons_succ]
      refine mix.D_done (by kernel_rfl) ?_ _
      try simp only [Act.put, List.setIfInBounds_toArray, List.set_cons_zero, List.set_cons_succ, List.getElem_toArray, List.getElem_cons_zero, List.getElem_cons_succ]
      obtain ⟨h2, k2⟩ := (hA.below hS0).store (0 * 3) (.int .i64 3) (ac' := (newL n).ac) (by rw [cellsJ_set0 _ h0n]; unfold newL; rw [range_at _ q0]) (by rw [newL_len, hlen])
      rw [show 0 * 3 = 0 from rfl] at h2 k2
      have b2 : Below a1 w (wd.setCell ⟨a1, 0, none⟩ (.int .i64 3)) := (HR.out.2.2.trans (hS0.mono (by have := HR.out.2.2.size; have := HA1.out; omega))).trans (k2.below (fun k hk => by omega) (by have := HR.out.2.2.size; have := HA1.out; have := hS0.size; omega))
      have d2 := k2.blk (HR.out.2.1.below hS0 l1) hne2
      have HF : Hid (LgAt (wd.setCell ⟨a1, 0, none⟩ (.int .i64 3)) g lg a1 n (newL n)) := powers.lay ⟨by rw [newL_len]; exact d2, ownsRow_base h2 fun g _ => Nat.zero_le _, hne, newL_ok hsl⟩
      generalize wd.setCell ⟨a1, 0, none⟩ (.int .i64 3) = W9 at *
      clear h2 k2 d2
      go_wp2_with fail
      go_ret
      have := HA1.out
      have := HLG.out
      exact ⟨lg, a1, n, rfl, HF.out, below_q b2 HA1.out, by omega, by omega⟩

set_option maxRecDepth 100000 in
set_option maxHeartbeats 4000000 in
theorem new_nil (w : World) : Calls Try.prog 25 #[.pointer none] w fun e w' => e = .returned (.pointer none) ∧ w' = w := by
  go_enter Try.func25, Try.ntmps25
  go_wp2_with fail
  go_ret
  exact ⟨rfl, rfl⟩

end
end Go.Proofs.Ytoenkkbcpafanaa.segs
