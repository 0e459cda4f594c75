/- climber.beside, where the neighbour can be read. -/
import Derived.Test.YtnndohdiiglgmaaKDlD
import Derived.Test.YtnndohdiiglgmaaKTrAh


namespace Go.Proofs.Ytnndohdiiglgmaa.trees
set_option linter.unusedVariables false
set_option linter.unusedSimpArgs false
open Go.RowKit Go.Proofs.Ytnndohdiiglgmaa.base Go.Proofs.Ytnndohdiiglgmaa.vers Go.Proofs.Ytnndohdiiglgmaa.nodes Go.Proofs.Ytnndohdiiglgmaa.quotas

/-- what beside leaves: the neighbour in a row of one, in the step's variable -/
def BsPost (w : World) (wb o : Nat) (n : P3) (e : Ending) (w' : World) : Prop :=
  e = .returned (.int .i64 0) ∧ ∃ (w1 : World) (y : N) (g : Nat), y.p = n ∧ Below w.heap.size w w1 ∧ w' = w1.setCell ⟨wb, o, none⟩ (.slice (some ⟨g, 0, none⟩) 1 1) ∧ w.heap.size ≤ g ∧ Blk w1 g 60 #[.bool y.lf, .slice y.A y.es.length y.c, .slice y.Q y.ks.length y.m] ∧ NsF w1 (fun k => w.heap.size ≤ k ∧ k < w1.heap.size) y

set_option maxRecDepth 100000 in
set_option maxHeartbeats 4000000 in
theorem beside_right (h : Nat) (S : Nat → Prop) (ns : List P3) (wb o i j d : Nat) (hj : j = i + 1) (ks : List K) (Q : Option Addr) (m : Nat) (n : P3) (b : Bool) (hb1 : n.1 = b) (F : Nat → Prop) (u4 u5 : Value) (w : World) (hh : Hp w h S ns) (hK : KsF w F ks Q m) (hF : ∀ g, F g → g < w.heap.size) (hwb : wb < w.heap.size)
    (c2 : w.cell? ⟨wb, o + 2, none⟩ = some (.slice Q ks.length m)) (c3 : w.cell? ⟨wb, o + 3, none⟩ = some (.int .i64 (i : Int))) (c4 : w.cell? ⟨wb, o + 4, none⟩ = some u4) (c5 : w.cell? ⟨wb, o + 5, none⟩ = some u5) (f4 : w.frozen? ⟨wb, o + 4, none⟩ = false) (f5 : w.frozen? ⟨wb, o + 5, none⟩ = false)
    (hi : i < ks.length) (h2 : 1 < ks.length) (hc : i + 1 < ks.length) (hl : ks.length ≤ 1000) (hd : d < 1000) (hp : pageE ns (ks[j]?.getD zK).r d = .ok n) :
    Calls Try.prog 87 #[clim h, .pointer (some ⟨wb, o, none⟩), .int .i64 (d : Int), .bool b] w (BsPost w wb (o + 5) n) := by
  have hk1 : j < ks.length := by omega
  obtain ⟨bk, off, rfl, hbk, _, q1, q2, q3, q4⟩ := hK.ks.at_ hk1
  have hfit := hK.2.2.2.2 _ (List.getElem_mem hk1)
  rw [List.getElem?_eq_getElem hk1, Option.getD_some] at hp
  generalize ks[j] = kk at q1 q2 q3 q4 hfit hp
  have bW := (Below.refl w.heap.size w).alloc (Nat.le_refl _) (.cells #[.iface 23 (.pointer (some ⟨h, 0, none⟩))] 111)
  have kC := Blk.new w 111 #[.iface 23 (.pointer (some ⟨h, 0, none⟩))]
  have lC : w.heap.size < (w.alloc (.cells #[.iface 23 (.pointer (some ⟨h, 0, none⟩))] 111)).heap.size := by simp
  have HP := vers.lay (show ∀ wx : World, Below w.heap.size w wx → Calls Try.prog 80 #[clim h, kk.r.val, .int .i64 (d : Int)] wx (PPost wx (.ok n)) from fun wx hb => by
    have := page_any kk.r d h S ns wx (hh.below hb) hfit.2 (by omega)
    rwa [hp] at this)
  have HHi := vers.lay hi
  have HHl := vers.lay hl
  clear hh hK hp hfit
  have lW : wb < (w.alloc (.cells #[.iface 23 (.pointer (some ⟨h, 0, none⟩))] 111)).heap.size := by simp; omega
  have lK : bk < (w.alloc (.cells #[.iface 23 (.pointer (some ⟨h, 0, none⟩))] 111)).heap.size := by simp; omega
  have a2 := (bW.cell (p := ⟨wb, o + 2, none⟩) hwb).trans c2
  have a3 := (bW.cell (p := ⟨wb, o + 3, none⟩) hwb).trans c3
  have a4 := (bW.cell (p := ⟨wb, o + 4, none⟩) hwb).trans c4
  have a5 := (bW.cell (p := ⟨wb, o + 5, none⟩) hwb).trans c5
  have g4 := (bW.frozen (p := ⟨wb, o + 4, none⟩) hwb).trans f4
  have g5 := (bW.frozen (p := ⟨wb, o + 5, none⟩) hwb).trans f5
  have p1 := (bW.cell (p := ⟨bk, off + (j) * 5 + 1, none⟩) hbk).trans q1
  have p2 := (bW.cell (p := ⟨bk, off + (j) * 5 + 2, none⟩) hbk).trans q2
  have p3 := (bW.cell (p := ⟨bk, off + (j) * 5 + 3, none⟩) hbk).trans q3
  have p4 := (bW.cell (p := ⟨bk, off + (j) * 5 + 4, none⟩) hbk).trans q4
  have kc := kC.cell 0
  simp only [List.getElem?_toArray, List.getElem?_cons_zero, List.getElem?_cons_succ] at kc
  clear c2 c3 c4 c5 f4 f5 q1 q2 q3 q4
  go_enter Try.func87, Try.ntmps87
  go_wp2_with fail
  generalize hWW : w.alloc (.cells #[.iface 23 (.pointer (some ⟨h, 0, none⟩))] 111) = W at *
  obtain ⟨N, hN, hM⟩ := norms (fun wx => Below W.heap.size W wx) W (Below.refl _ _)
  have hne : Nonempty World := ⟨W⟩
  have v2 := fun n => ((hN n).cell (p := ⟨wb, o + 2, none⟩) lW).trans a2
  have v3 := fun n => ((hN n).cell (p := ⟨wb, o + 3, none⟩) lW).trans a3
  have e1 : IntKind.i64.wrap ((i : Int) + 1) = (i : Int) + 1 := IntWalk.i64_in _ (by omega)
  have e2 : IntKind.i64.wrap ((i : Int) - 1) = (i : Int) - 1 := IntWalk.i64_in _ (by omega)
  have d1 : decide ((i : Int) + 1 < (ks.length : Int)) = true := decide_eq_true (by omega)
  refine region_class N (by kernel_rfl) (by kernel_rfl) (hM _ (Below.refl _ W).drew) ?_
  repeat (go_big_quiet_step (fail))
  refine wpQuiet_nil ?_
  rintro _ ⟨nn, rfl⟩
  have I9 := hN nn
  generalize N nn = W1 at I9 ⊢
  have sW1 := I9.size
  have b2 := (I9.cell (p := ⟨wb, o + 2, none⟩) lW).trans a2
  have b3 := (I9.cell (p := ⟨wb, o + 3, none⟩) lW).trans a3
  have b4 := (I9.cell (p := ⟨wb, o + 4, none⟩) lW).trans a4
  have b5 := (I9.cell (p := ⟨wb, o + 5, none⟩) lW).trans a5
  have h4 := (I9.frozen (p := ⟨wb, o + 4, none⟩) lW).trans g4
  have h5 := (I9.frozen (p := ⟨wb, o + 5, none⟩) lW).trans g5
  have r1 := (I9.cell (p := ⟨bk, off + (j) * 5 + 1, none⟩) lK).trans p1
  have r2 := (I9.cell (p := ⟨bk, off + (j) * 5 + 2, none⟩) lK).trans p2
  have r3 := (I9.cell (p := ⟨bk, off + (j) * 5 + 3, none⟩) lK).trans p3
  have r4 := (I9.cell (p := ⟨bk, off + (j) * 5 + 4, none⟩) lK).trans p4
  have rc := (I9.cell (p := ⟨w.heap.size, 0, none⟩) lC).trans kc
  clear v2 v3 hN hM N hne a2 a3 a4 a5 g4 g5 p1 p2 p3 p4 kc d1 h2
  go_wp2_with fail
  have ej : (i : Int) + 1 = (j : Int) := by omega
  simp only [ej]
  clear ej hc hj
  have dI : (0 : Int) ≤ (j : Int) ∧ (j : Int) < (ks.length : Int) := by omega
  have lC1 := Nat.lt_of_lt_of_le lC sW1
  have lW1 := Nat.lt_of_lt_of_le lW sW1
  have lK1 := Nat.lt_of_lt_of_le lK sW1
  have hS0 : Below W1.heap.size W1 W1.drew := (Below.refl _ _).drew
  refine mix.region_D (fun w' => Below W1.heap.size W1 w') (fun j => j == 17) (by kernel_rfl) ?_
  generalize W1.drew = W1d at hS0 ⊢
  refine mix.D_take (i := 0) (v := ?_) rfl (by kernel_rfl) (by kernel_rfl) (fun _ _ _ h => h) (Or.inl ⟨by rfl, ?_⟩) hS0 ?_
  rotate_left
  · intro w' hSw
    have y0 := (hSw.cell (p := ⟨w.heap.size, 0, none⟩) lC1).trans rc
    have y1 := (hSw.cell (p := ⟨wb, o + 2, none⟩) lW1).trans b2
    have y2 := (hSw.cell (p := ⟨bk, off + (j) * 5 + 1, none⟩) lK1).trans r1
    have y3 := (hSw.cell (p := ⟨bk, off + (j) * 5 + 2, none⟩) lK1).trans r2
    have y4 := (hSw.cell (p := ⟨bk, off + (j) * 5 + 3, none⟩) lK1).trans r3
    have y5 := (hSw.cell (p := ⟨bk, off + (j) * 5 + 4, none⟩) lK1).trans r4
    try simp only [List.getElem_toArray, List.getElem_cons_zero, List.getElem_cons_succ]
    go_simp
    exact rfl
  try simp only [Act.put, List.setIfInBounds_toArray, List.set_cons_zero, List.set_cons_succ, List.getElem_toArray, List.getElem_cons_zero, List.getElem_cons_succ]
  refine mix.D_take (i := 1) (v := ?_) rfl (by kernel_rfl) (by kernel_rfl) (fun _ _ _ h => h) (Or.inl ⟨by rfl, ?_⟩) hS0 ?_
  rotate_left
  · intro w' hSw
    have y0 := (hSw.cell (p := ⟨w.heap.size, 0, none⟩) lC1).trans rc
    have y1 := (hSw.cell (p := ⟨wb, o + 2, none⟩) lW1).trans b2
    have y2 := (hSw.cell (p := ⟨bk, off + (j) * 5 + 1, none⟩) lK1).trans r1
    have y3 := (hSw.cell (p := ⟨bk, off + (j) * 5 + 2, none⟩) lK1).trans r2
    have y4 := (hSw.cell (p := ⟨bk, off + (j) * 5 + 3, none⟩) lK1).trans r3
    have y5 := (hSw.cell (p := ⟨bk, off + (j) * 5 + 4, none⟩) lK1).trans r4
    try simp only [List.getElem_toArray, List.getElem_cons_zero, List.getElem_cons_succ]
    go_simp
    exact rfl
  try simp only [Act.put, List.setIfInBounds_toArray, List.set_cons_zero, List.set_cons_succ, List.getElem_toArray, List.getElem_cons_zero, List.getElem_cons_succ]
  refine mix.D_take (i := 2) (v := ?_) rfl (by kernel_rfl) (by kernel_rfl) (fun _ _ _ h => h) (Or.inl ⟨by rfl, ?_⟩) hS0 ?_
  rotate_left
  · intro w' hSw
    have y0 := (hSw.cell (p := ⟨w.heap.size, 0, none⟩) lC1).trans rc
    have y1 := (hSw.cell (p := ⟨wb, o + 2, none⟩) lW1).trans b2
    have y2 := (hSw.cell (p := ⟨bk, off + (j) * 5 + 1, none⟩) lK1).trans r1
    have y3 := (hSw.cell (p := ⟨bk, off + (j) * 5 + 2, none⟩) lK1).trans r2
    have y4 := (hSw.cell (p := ⟨bk, off + (j) * 5 + 3, none⟩) lK1).trans r3
    have y5 := (hSw.cell (p := ⟨bk, off + (j) * 5 + 4, none⟩) lK1).trans r4
    try simp only [List.getElem_toArray, List.getElem_cons_zero, List.getElem_cons_succ]
    go_simp
    exact rfl
  try simp only [Act.put, List.setIfInBounds_toArray, List.set_cons_zero, List.set_cons_succ, List.getElem_toArray, List.getElem_cons_zero, List.getElem_cons_succ]
  refine mix.D_take (i := 3) (v := ?_) rfl (by kernel_rfl) (by kernel_rfl) (fun _ _ _ h => h) (Or.inl ⟨by rfl, ?_⟩) hS0 ?_
  rotate_left
  · intro w' hSw
    have y0 := (hSw.cell (p := ⟨w.heap.size, 0, none⟩) lC1).trans rc
    have y1 := (hSw.cell (p := ⟨wb, o + 2, none⟩) lW1).trans b2
    have y2 := (hSw.cell (p := ⟨bk, off + (j) * 5 + 1, none⟩) lK1).trans r1
    have y3 := (hSw.cell (p := ⟨bk, off + (j) * 5 + 2, none⟩) lK1).trans r2
    have y4 := (hSw.cell (p := ⟨bk, off + (j) * 5 + 3, none⟩) lK1).trans r3
    have y5 := (hSw.cell (p := ⟨bk, off + (j) * 5 + 4, none⟩) lK1).trans r4
    try simp only [List.getElem_toArray, List.getElem_cons_zero, List.getElem_cons_succ]
    go_simp
    exact rfl
  try simp only [Act.put, List.setIfInBounds_toArray, List.set_cons_zero, List.set_cons_succ, List.getElem_toArray, List.getElem_cons_zero, List.getElem_cons_succ]
  refine mix.D_take (i := 4) (v := ?_) rfl (by kernel_rfl) (by kernel_rfl) (fun _ _ _ h => h) (Or.inl ⟨by rfl, ?_⟩) hS0 ?_
  rotate_left
  · intro w' hSw
    have y0 := (hSw.cell (p := ⟨w.heap.size, 0, none⟩) lC1).trans rc
    have y1 := (hSw.cell (p := ⟨wb, o + 2, none⟩) lW1).trans b2
    have y2 := (hSw.cell (p := ⟨bk, off + (j) * 5 + 1, none⟩) lK1).trans r1
    have y3 := (hSw.cell (p := ⟨bk, off + (j) * 5 + 2, none⟩) lK1).trans r2
    have y4 := (hSw.cell (p := ⟨bk, off + (j) * 5 + 3, none⟩) lK1).trans r3
    have y5 := (hSw.cell (p := ⟨bk, off + (j) * 5 + 4, none⟩) lK1).trans r4
    try simp only [List.getElem_toArray, List.getElem_cons_zero, List.getElem_cons_succ]
    go_simp
    exact rfl
  try simp only [Act.put, List.setIfInBounds_toArray, List.set_cons_zero, List.set_cons_succ, List.getElem_toArray, List.getElem_cons_zero, List.getElem_cons_succ]
  refine mix.D_take (i := 5) (v := ?_) rfl (by kernel_rfl) (by kernel_rfl) (fun _ _ _ h => h) (Or.inl ⟨by rfl, ?_⟩) hS0 ?_
  rotate_left
  · intro w' hSw
    have y0 := (hSw.cell (p := ⟨w.heap.size, 0, none⟩) lC1).trans rc
    have y1 := (hSw.cell (p := ⟨wb, o + 2, none⟩) lW1).trans b2
    have y2 := (hSw.cell (p := ⟨bk, off + (j) * 5 + 1, none⟩) lK1).trans r1
    have y3 := (hSw.cell (p := ⟨bk, off + (j) * 5 + 2, none⟩) lK1).trans r2
    have y4 := (hSw.cell (p := ⟨bk, off + (j) * 5 + 3, none⟩) lK1).trans r3
    have y5 := (hSw.cell (p := ⟨bk, off + (j) * 5 + 4, none⟩) lK1).trans r4
    try simp only [List.getElem_toArray, List.getElem_cons_zero, List.getElem_cons_succ]
    go_simp
    exact rfl
  try simp only [Act.put, List.setIfInBounds_toArray, List.set_cons_zero, List.set_cons_succ, List.getElem_toArray, List.getElem_cons_zero, List.getElem_cons_succ]
  refine mix.D_take (i := 6) (v := ?_) rfl (by kernel_rfl) (by kernel_rfl) (fun _ _ _ h => h) (Or.inl ⟨by rfl, ?_⟩) hS0 ?_
  rotate_left
  · intro w' hSw
    have y0 := (hSw.cell (p := ⟨w.heap.size, 0, none⟩) lC1).trans rc
    have y1 := (hSw.cell (p := ⟨wb, o + 2, none⟩) lW1).trans b2
    have y2 := (hSw.cell (p := ⟨bk, off + (j) * 5 + 1, none⟩) lK1).trans r1
    have y3 := (hSw.cell (p := ⟨bk, off + (j) * 5 + 2, none⟩) lK1).trans r2
    have y4 := (hSw.cell (p := ⟨bk, off + (j) * 5 + 3, none⟩) lK1).trans r3
    have y5 := (hSw.cell (p := ⟨bk, off + (j) * 5 + 4, none⟩) lK1).trans r4
    try simp only [List.getElem_toArray, List.getElem_cons_zero, List.getElem_cons_succ]
    go_simp
    exact rfl
  try simp only [Act.put, List.setIfInBounds_toArray, List.set_cons_zero, List.set_cons_succ, List.getElem_toArray, List.getElem_cons_zero, List.getElem_cons_succ]
  refine mix.D_take (i := 7) (v := ?_) rfl (by kernel_rfl) (by kernel_rfl) (fun _ _ _ h => h) (Or.inl ⟨by rfl, ?_⟩) hS0 ?_
  rotate_left
  · intro w' hSw
    have y0 := (hSw.cell (p := ⟨w.heap.size, 0, none⟩) lC1).trans rc
    have y1 := (hSw.cell (p := ⟨wb, o + 2, none⟩) lW1).trans b2
    have y2 := (hSw.cell (p := ⟨bk, off + (j) * 5 + 1, none⟩) lK1).trans r1
    have y3 := (hSw.cell (p := ⟨bk, off + (j) * 5 + 2, none⟩) lK1).trans r2
    have y4 := (hSw.cell (p := ⟨bk, off + (j) * 5 + 3, none⟩) lK1).trans r3
    have y5 := (hSw.cell (p := ⟨bk, off + (j) * 5 + 4, none⟩) lK1).trans r4
    try simp only [List.getElem_toArray, List.getElem_cons_zero, List.getElem_cons_succ]
    go_simp
    exact rfl
  try simp only [Act.put, List.setIfInBounds_toArray, List.set_cons_zero, List.set_cons_succ, List.getElem_toArray, List.getElem_cons_zero, List.getElem_cons_succ]
  refine mix.D_take (i := 8) (v := ?_) rfl (by kernel_rfl) (by kernel_rfl) (fun _ _ _ h => h) (Or.inl ⟨by rfl, ?_⟩) hS0 ?_
  rotate_left
  · intro w' hSw
    have y0 := (hSw.cell (p := ⟨w.heap.size, 0, none⟩) lC1).trans rc
    have y1 := (hSw.cell (p := ⟨wb, o + 2, none⟩) lW1).trans b2
    have y2 := (hSw.cell (p := ⟨bk, off + (j) * 5 + 1, none⟩) lK1).trans r1
    have y3 := (hSw.cell (p := ⟨bk, off + (j) * 5 + 2, none⟩) lK1).trans r2
    have y4 := (hSw.cell (p := ⟨bk, off + (j) * 5 + 3, none⟩) lK1).trans r3
    have y5 := (hSw.cell (p := ⟨bk, off + (j) * 5 + 4, none⟩) lK1).trans r4
    try simp only [List.getElem_toArray, List.getElem_cons_zero, List.getElem_cons_succ]
    go_simp
    exact rfl
  try simp only [Act.put, List.setIfInBounds_toArray, List.set_cons_zero, List.set_cons_succ, List.getElem_toArray, List.getElem_cons_zero, List.getElem_cons_succ]
  refine mix.D_take (i := 9) (v := ?_) rfl (by kernel_rfl) (by kernel_rfl) (fun _ _ _ h => h) (Or.inl ⟨by rfl, ?_⟩) hS0 ?_
  rotate_left
  · intro w' hSw
    have y0 := (hSw.cell (p := ⟨w.heap.size, 0, none⟩) lC1).trans rc
    have y1 := (hSw.cell (p := ⟨wb, o + 2, none⟩) lW1).trans b2
    have y2 := (hSw.cell (p := ⟨bk, off + (j) * 5 + 1, none⟩) lK1).trans r1
    have y3 := (hSw.cell (p := ⟨bk, off + (j) * 5 + 2, none⟩) lK1).trans r2
    have y4 := (hSw.cell (p := ⟨bk, off + (j) * 5 + 3, none⟩) lK1).trans r3
    have y5 := (hSw.cell (p := ⟨bk, off + (j) * 5 + 4, none⟩) lK1).trans r4
    try simp only [List.getElem_toArray, List.getElem_cons_zero, List.getElem_cons_succ]
    go_simp
    exact rfl
  try simp only [Act.put, List.setIfInBounds_toArray, List.set_cons_zero, List.set_cons_succ, List.getElem_toArray, List.getElem_cons_zero, List.getElem_cons_succ]
  refine mix.D_take (i := 10) (v := ?_) rfl (by kernel_rfl) (by kernel_rfl) (fun _ _ _ h => h) (Or.inl ⟨by rfl, ?_⟩) hS0 ?_
  rotate_left
  · intro w' hSw
    have y0 := (hSw.cell (p := ⟨w.heap.size, 0, none⟩) lC1).trans rc
    have y1 := (hSw.cell (p := ⟨wb, o + 2, none⟩) lW1).trans b2
    have y2 := (hSw.cell (p := ⟨bk, off + (j) * 5 + 1, none⟩) lK1).trans r1
    have y3 := (hSw.cell (p := ⟨bk, off + (j) * 5 + 2, none⟩) lK1).trans r2
    have y4 := (hSw.cell (p := ⟨bk, off + (j) * 5 + 3, none⟩) lK1).trans r3
    have y5 := (hSw.cell (p := ⟨bk, off + (j) * 5 + 4, none⟩) lK1).trans r4
    try simp only [List.getElem_toArray, List.getElem_cons_zero, List.getElem_cons_succ]
    go_simp
    exact rfl
  try simp only [Act.put, List.setIfInBounds_toArray, List.set_cons_zero, List.set_cons_succ, List.getElem_toArray, List.getElem_cons_zero, List.getElem_cons_succ]
  refine mix.D_two (k := 11) (j := 15) rfl rfl rfl rfl (by kernel_rfl) (fun K' hK => ?_) (fun K' hK => ?_)
  · simp only [List.getElem_toArray, List.getElem_cons_zero, List.getElem_cons_succ]
    go_wp2_with fail
    refine (HP.out _ (bW.trans ((I9.trans (hS0.mono I9.size)).mono bW.size))).mono ?_
    rintro e wb1 ⟨hs1, ⟨lf, es, kz, A, c, Q2, m2⟩, rfl, hyp, O1⟩
    obtain rfl : b = lf := (hb1.symm.trans (congrArg (·.1) hyp.symm))
    have hb1 : Below W1.heap.size W1 wb1 := hS0.trans (hs1.mono hS0.size)
    refine hK.out _ _ (fun _ => hb1) ?_
    clear hK K'
    try simp only [Act.put, List.setIfInBounds_toArray, List.set_cons_zero, List.set_cons_succ]
    refine mix.D_take (i := 12) (v := ?_) rfl (by kernel_rfl) (by kernel_rfl) (fun _ _ _ h => h) (Or.inl ⟨by rfl, ?_⟩) hb1 ?_
    rotate_left
    · intro w' hSw
      have y0 := (hSw.cell (p := ⟨w.heap.size, 0, none⟩) lC1).trans rc
      have y1 := (hSw.cell (p := ⟨wb, o + 2, none⟩) lW1).trans b2
      have y2 := (hSw.cell (p := ⟨bk, off + (j) * 5 + 1, none⟩) lK1).trans r1
      have y3 := (hSw.cell (p := ⟨bk, off + (j) * 5 + 2, none⟩) lK1).trans r2
      have y4 := (hSw.cell (p := ⟨bk, off + (j) * 5 + 3, none⟩) lK1).trans r3
      have y5 := (hSw.cell (p := ⟨bk, off + (j) * 5 + 4, none⟩) lK1).trans r4
      try simp only [List.getElem_toArray, List.getElem_cons_zero, List.getElem_cons_succ]
      go_simp
      exact rfl
    try simp only [Act.put, List.setIfInBounds_toArray, List.set_cons_zero, List.set_cons_succ, List.getElem_toArray, List.getElem_cons_zero, List.getElem_cons_succ]
    refine mix.D_take (i := 13) (v := ?_) rfl (by kernel_rfl) (by kernel_rfl) (fun _ _ _ h => h) (Or.inl ⟨by rfl, ?_⟩) hb1 ?_
    rotate_left
    · intro w' hSw
      have y0 := (hSw.cell (p := ⟨w.heap.size, 0, none⟩) lC1).trans rc
      have y1 := (hSw.cell (p := ⟨wb, o + 2, none⟩) lW1).trans b2
      have y2 := (hSw.cell (p := ⟨bk, off + (j) * 5 + 1, none⟩) lK1).trans r1
      have y3 := (hSw.cell (p := ⟨bk, off + (j) * 5 + 2, none⟩) lK1).trans r2
      have y4 := (hSw.cell (p := ⟨bk, off + (j) * 5 + 3, none⟩) lK1).trans r3
      have y5 := (hSw.cell (p := ⟨bk, off + (j) * 5 + 4, none⟩) lK1).trans r4
      try simp only [List.getElem_toArray, List.getElem_cons_zero, List.getElem_cons_succ]
      go_simp
      exact rfl
    try simp only [Act.put, List.setIfInBounds_toArray, List.set_cons_zero, List.set_cons_succ, List.getElem_toArray, List.getElem_cons_zero, List.getElem_cons_succ]
    refine mix.D_take (i := 14) (v := ?_) rfl (by kernel_rfl) (by kernel_rfl) (fun _ _ _ h => h) (Or.inl ⟨by rfl, ?_⟩) hb1 ?_
    rotate_left
    · intro w' hSw
      have y0 := (hSw.cell (p := ⟨w.heap.size, 0, none⟩) lC1).trans rc
      have y1 := (hSw.cell (p := ⟨wb, o + 2, none⟩) lW1).trans b2
      have y2 := (hSw.cell (p := ⟨bk, off + (j) * 5 + 1, none⟩) lK1).trans r1
      have y3 := (hSw.cell (p := ⟨bk, off + (j) * 5 + 2, none⟩) lK1).trans r2
      have y4 := (hSw.cell (p := ⟨bk, off + (j) * 5 + 3, none⟩) lK1).trans r3
      have y5 := (hSw.cell (p := ⟨bk, off + (j) * 5 + 4, none⟩) lK1).trans r4
      try simp only [List.getElem_toArray, List.getElem_cons_zero, List.getElem_cons_succ]
      go_simp
      exact rfl
    try simp only [Act.put, List.setIfInBounds_toArray, List.set_cons_zero, List.set_cons_succ, List.getElem_toArray, List.getElem_cons_zero, List.getElem_cons_succ]
    refine mix.D_op (k := 15) rfl rfl (by kernel_rfl) (fun K' hK => ?_)
    simp only [List.getElem_toArray, List.getElem_cons_zero, List.getElem_cons_succ]
    go_wp2_with fail
    have hs2 : Below wb1.heap.size wb1 (wb1.alloc (.cells #[.bool false, .slice none 0 0, .slice none 0 0] 60)) := (Below.refl _ _).alloc (Nat.le_refl _) _
    have G2 := Blk.new wb1 60 #[.bool false, .slice none 0 0, .slice none 0 0]
    have hsz2 : wb1.heap.size < (wb1.alloc (.cells #[.bool false, .slice none 0 0, .slice none 0 0] 60)).heap.size := by simp
    have hg2 := vers.lay (rfl : wb1.heap.size = wb1.heap.size)
    generalize wb1.alloc (.cells #[.bool false, .slice none 0 0, .slice none 0 0] 60) = wa2 at hs2 G2 hsz2 ⊢
    have O2 := (O1.agree (Agree.of_below hs2 (fun g hg => hg.2)))
    have hb2 : Below W1.heap.size W1 wa2 := hb1.trans (hs2.mono hb1.size)
    refine hK.out _ _ (fun _ => hb2) ?_
    clear hK K'
    try simp only [Act.put, List.setIfInBounds_toArray, List.set_cons_zero, List.set_cons_succ]
    refine mix.D_op (k := 16) rfl rfl (by kernel_rfl) (fun K' hK => ?_)
    simp only [List.getElem_toArray, List.getElem_cons_zero, List.getElem_cons_succ]
    have f0 := G2.frozen 0
    have f1 := G2.frozen 1
    have f2 := G2.frozen 2
    have l0 := G2.lt
    have n0 := G2.cell 0
    have n1 := G2.cell 1
    have n2 := G2.cell 2
    simp at n0 n1 n2
    go_wp2_with fail
    have hk3 := set3_blk G2 (.bool b) (.slice A es.length c) (.slice Q2 kz.length m2)
    have hb3 : Below W1.heap.size W1 _ := set3_below hb2 (g := wb1.heap.size) (hb1.size) (.bool b) (.slice A es.length c) (.slice Q2 kz.length m2)
    have hs3 := Nat.le_of_eq (set3_size wa2 wb1.heap.size (.bool b) (.slice A es.length c) (.slice Q2 kz.length m2)).symm
    have O3 := O2.agree (set3_agree (g := wb1.heap.size) (fun g hg => by have h1 := hg.1; have h2 := hg.2; omega) (.bool b) (.slice A es.length c) (.slice Q2 kz.length m2))
    unfold set3 at hk3 hb3 hs3 O3
    clear f0 f1 f2 l0 n0 n1 n2
    generalize ((wa2.setCell ⟨wb1.heap.size, 0, none⟩ (.bool b)).setCell ⟨wb1.heap.size, 1, none⟩ (.slice A es.length c)).setCell ⟨wb1.heap.size, 2, none⟩ (.slice Q2 kz.length m2) = wb3 at hk3 hb3 hs3 O3 ⊢
    refine hK.out _ _ (fun _ => hb3) ?_
    clear hK K'
    try simp only [Act.put, List.setIfInBounds_toArray, List.set_cons_zero, List.set_cons_succ]
    refine mix.D_op (k := 17) rfl rfl (by kernel_rfl) (fun K' hK => ?_)
    simp only [List.getElem_toArray, List.getElem_cons_zero, List.getElem_cons_succ]
    go_wp2_with fail
    refine hK.out _ _ (fun h => by simp at h) ?_
    clear hK K'
    refine mix.D_done (by kernel_rfl) ?_ _
    try simp only [Act.put, List.getElem_toArray, List.getElem_cons_zero, List.getElem_cons_succ, List.setIfInBounds_toArray, List.set_cons_zero, List.set_cons_succ]
    have z0 := hk3.cell 0
    have z1 := hk3.cell 1
    have z2 := hk3.cell 2
    simp at z0 z1 z2
    have zl := hk3.lt
    have e4 := (hb3.cell (p := ⟨wb, o + 4, none⟩) lW1).trans b4
    have e5 := (hb3.cell (p := ⟨wb, o + 5, none⟩) lW1).trans b5
    have q4 := (hb3.frozen (p := ⟨wb, o + 4, none⟩) lW1).trans h4
    have q5 := (hb3.frozen (p := ⟨wb, o + 5, none⟩) lW1).trans h5
    have d9 : (b != b) = false := by cases b <;> rfl
    have bZ := bW.trans ((I9.trans (hb3.mono I9.size)).mono bW.size)
    have lZ := Nat.lt_of_lt_of_le lW1 (hb3.size)
    have bA := (Below.refl wb3.heap.size wb3).alloc (Nat.le_refl _) (.cells #[.bool b, .slice A es.length c, .slice Q2 kz.length m2] 60)
    have a4 := (bA.cell (p := ⟨wb, o + 4, none⟩) lZ).trans e4
    have a5 := (bA.cell (p := ⟨wb, o + 5, none⟩) lZ).trans e5
    have g4 := (bA.frozen (p := ⟨wb, o + 4, none⟩) lZ).trans q4
    have g5 := (bA.frozen (p := ⟨wb, o + 5, none⟩) lZ).trans q5
    clear e4 e5 q4 q5 bA
    go_wp2_with fail
    refine bodyPost_ret (v := .int .i64 0) (by simp [results, Try.results87, go_sem]) rfl ⟨rfl, wb3.alloc (.cells #[.bool b, .slice A es.length c, .slice Q2 kz.length m2] 60), ⟨b, es, kz, A, c, Q2, m2⟩, wb3.heap.size, hyp, bZ.alloc bZ.size _, (World.setCell_alloc_past _ _ _ _ lZ).symm, bZ.size, Blk.new _ _ _, ?_⟩
    refine (O3.ns.agree (Agree.of_below (B := wb3.heap.size) ((Below.refl _ _).alloc (Nat.le_refl _) _) (fun g hg => ?_))).mono fun g hg => ⟨?_, ?_⟩
    · exact Nat.lt_of_lt_of_le hg.2 (by omega)
    · exact Nat.le_trans (by have := bW.size; have := hS0.size; omega) hg.1
    · simp only [World.size_alloc]
      exact Nat.lt_trans (Nat.lt_of_lt_of_le hg.2 (by omega)) (Nat.lt_succ_self _)
  · simp only [List.getElem_toArray, List.getElem_cons_zero, List.getElem_cons_succ]
    go_wp2_with fail
    have hs5 : Below W1d.heap.size W1d (W1d.alloc (.cells #[.bool false, .slice none 0 0, .slice none 0 0] 60)) := (Below.refl _ _).alloc (Nat.le_refl _) _
    have G5 := Blk.new W1d 60 #[.bool false, .slice none 0 0, .slice none 0 0]
    have hsz5 : W1d.heap.size < (W1d.alloc (.cells #[.bool false, .slice none 0 0, .slice none 0 0] 60)).heap.size := by simp
    have hg5 := vers.lay (rfl : W1d.heap.size = W1d.heap.size)
    generalize W1d.alloc (.cells #[.bool false, .slice none 0 0, .slice none 0 0] 60) = wa5 at hs5 G5 hsz5 ⊢
    have hb5 : Below W1.heap.size W1 wa5 := hS0.trans (hs5.mono hS0.size)
    refine hK.out _ _ (fun _ => hb5) ?_
    clear hK K'
    try simp only [Act.put, List.setIfInBounds_toArray, List.set_cons_zero, List.set_cons_succ]
    refine mix.D_op (k := 11) rfl rfl (by kernel_rfl) (fun K' hK => ?_)
    simp only [List.getElem_toArray, List.getElem_cons_zero, List.getElem_cons_succ]
    go_wp2_with fail
    refine (HP.out _ (bW.trans ((I9.trans (hb5.mono I9.size)).mono bW.size))).mono ?_
    rintro e wb6 ⟨hs6, ⟨lf, es, kz, A, c, Q2, m2⟩, rfl, hyp, O6⟩
    obtain rfl : b = lf := (hb1.symm.trans (congrArg (·.1) hyp.symm))
    have G6 := G5.below hs6 G5.lt
    have hb6 : Below W1.heap.size W1 wb6 := hb5.trans (hs6.mono hb5.size)
    refine hK.out _ _ (fun _ => hb6) ?_
    clear hK K'
    try simp only [Act.put, List.setIfInBounds_toArray, List.set_cons_zero, List.set_cons_succ]
    refine mix.D_take (i := 12) (v := ?_) rfl (by kernel_rfl) (by kernel_rfl) (fun _ _ _ h => h) (Or.inl ⟨by rfl, ?_⟩) hb6 ?_
    rotate_left
    · intro w' hSw
      have y0 := (hSw.cell (p := ⟨w.heap.size, 0, none⟩) lC1).trans rc
      have y1 := (hSw.cell (p := ⟨wb, o + 2, none⟩) lW1).trans b2
      have y2 := (hSw.cell (p := ⟨bk, off + (j) * 5 + 1, none⟩) lK1).trans r1
      have y3 := (hSw.cell (p := ⟨bk, off + (j) * 5 + 2, none⟩) lK1).trans r2
      have y4 := (hSw.cell (p := ⟨bk, off + (j) * 5 + 3, none⟩) lK1).trans r3
      have y5 := (hSw.cell (p := ⟨bk, off + (j) * 5 + 4, none⟩) lK1).trans r4
      try simp only [List.getElem_toArray, List.getElem_cons_zero, List.getElem_cons_succ]
      go_simp
      exact rfl
    try simp only [Act.put, List.setIfInBounds_toArray, List.set_cons_zero, List.set_cons_succ, List.getElem_toArray, List.getElem_cons_zero, List.getElem_cons_succ]
    refine mix.D_take (i := 13) (v := ?_) rfl (by kernel_rfl) (by kernel_rfl) (fun _ _ _ h => h) (Or.inl ⟨by rfl, ?_⟩) hb6 ?_
    rotate_left
    · intro w' hSw
      have y0 := (hSw.cell (p := ⟨w.heap.size, 0, none⟩) lC1).trans rc
      have y1 := (hSw.cell (p := ⟨wb, o + 2, none⟩) lW1).trans b2
      have y2 := (hSw.cell (p := ⟨bk, off + (j) * 5 + 1, none⟩) lK1).trans r1
      have y3 := (hSw.cell (p := ⟨bk, off + (j) * 5 + 2, none⟩) lK1).trans r2
      have y4 := (hSw.cell (p := ⟨bk, off + (j) * 5 + 3, none⟩) lK1).trans r3
      have y5 := (hSw.cell (p := ⟨bk, off + (j) * 5 + 4, none⟩) lK1).trans r4
      try simp only [List.getElem_toArray, List.getElem_cons_zero, List.getElem_cons_succ]
      go_simp
      exact rfl
    try simp only [Act.put, List.setIfInBounds_toArray, List.set_cons_zero, List.set_cons_succ, List.getElem_toArray, List.getElem_cons_zero, List.getElem_cons_succ]
    refine mix.D_take (i := 14) (v := ?_) rfl (by kernel_rfl) (by kernel_rfl) (fun _ _ _ h => h) (Or.inl ⟨by rfl, ?_⟩) hb6 ?_
    rotate_left
    · intro w' hSw
      have y0 := (hSw.cell (p := ⟨w.heap.size, 0, none⟩) lC1).trans rc
      have y1 := (hSw.cell (p := ⟨wb, o + 2, none⟩) lW1).trans b2
      have y2 := (hSw.cell (p := ⟨bk, off + (j) * 5 + 1, none⟩) lK1).trans r1
      have y3 := (hSw.cell (p := ⟨bk, off + (j) * 5 + 2, none⟩) lK1).trans r2
      have y4 := (hSw.cell (p := ⟨bk, off + (j) * 5 + 3, none⟩) lK1).trans r3
      have y5 := (hSw.cell (p := ⟨bk, off + (j) * 5 + 4, none⟩) lK1).trans r4
      try simp only [List.getElem_toArray, List.getElem_cons_zero, List.getElem_cons_succ]
      go_simp
      exact rfl
    try simp only [Act.put, List.setIfInBounds_toArray, List.set_cons_zero, List.set_cons_succ, List.getElem_toArray, List.getElem_cons_zero, List.getElem_cons_succ]
    refine mix.D_op (k := 16) rfl rfl (by kernel_rfl) (fun K' hK => ?_)
    simp only [List.getElem_toArray, List.getElem_cons_zero, List.getElem_cons_succ]
    have f0 := G6.frozen 0
    have f1 := G6.frozen 1
    have f2 := G6.frozen 2
    have l0 := G6.lt
    have n0 := G6.cell 0
    have n1 := G6.cell 1
    have n2 := G6.cell 2
    simp at n0 n1 n2
    go_wp2_with fail
    have hk7 := set3_blk G6 (.bool b) (.slice A es.length c) (.slice Q2 kz.length m2)
    have hb7 : Below W1.heap.size W1 _ := set3_below hb6 (g := W1d.heap.size) (hS0.size) (.bool b) (.slice A es.length c) (.slice Q2 kz.length m2)
    have hs7 := Nat.le_of_eq (set3_size wb6 W1d.heap.size (.bool b) (.slice A es.length c) (.slice Q2 kz.length m2)).symm
    have O7 := O6.agree (set3_agree (g := W1d.heap.size) (fun g hg => by have h1 := hg.1; have h2 := hg.2; omega) (.bool b) (.slice A es.length c) (.slice Q2 kz.length m2))
    unfold set3 at hk7 hb7 hs7 O7
    clear f0 f1 f2 l0 n0 n1 n2
    generalize ((wb6.setCell ⟨W1d.heap.size, 0, none⟩ (.bool b)).setCell ⟨W1d.heap.size, 1, none⟩ (.slice A es.length c)).setCell ⟨W1d.heap.size, 2, none⟩ (.slice Q2 kz.length m2) = wb7 at hk7 hb7 hs7 O7 ⊢
    refine hK.out _ _ (fun _ => hb7) ?_
    clear hK K'
    try simp only [Act.put, List.setIfInBounds_toArray, List.set_cons_zero, List.set_cons_succ]
    refine mix.D_op (k := 17) rfl rfl (by kernel_rfl) (fun K' hK => ?_)
    simp only [List.getElem_toArray, List.getElem_cons_zero, List.getElem_cons_succ]
    go_wp2_with fail
    refine hK.out _ _ (fun h => by simp at h) ?_
    clear hK K'
    refine mix.D_done (by kernel_rfl) ?_ _
    try simp only [Act.put, List.getElem_toArray, List.getElem_cons_zero, List.getElem_cons_succ, List.setIfInBounds_toArray, List.set_cons_zero, List.set_cons_succ]
    have z0 := hk7.cell 0
    have z1 := hk7.cell 1
    have z2 := hk7.cell 2
    simp at z0 z1 z2
    have zl := hk7.lt
    have e4 := (hb7.cell (p := ⟨wb, o + 4, none⟩) lW1).trans b4
    have e5 := (hb7.cell (p := ⟨wb, o + 5, none⟩) lW1).trans b5
    have q4 := (hb7.frozen (p := ⟨wb, o + 4, none⟩) lW1).trans h4
    have q5 := (hb7.frozen (p := ⟨wb, o + 5, none⟩) lW1).trans h5
    have d9 : (b != b) = false := by cases b <;> rfl
    have bZ := bW.trans ((I9.trans (hb7.mono I9.size)).mono bW.size)
    have lZ := Nat.lt_of_lt_of_le lW1 (hb7.size)
    have bA := (Below.refl wb7.heap.size wb7).alloc (Nat.le_refl _) (.cells #[.bool b, .slice A es.length c, .slice Q2 kz.length m2] 60)
    have a4 := (bA.cell (p := ⟨wb, o + 4, none⟩) lZ).trans e4
    have a5 := (bA.cell (p := ⟨wb, o + 5, none⟩) lZ).trans e5
    have g4 := (bA.frozen (p := ⟨wb, o + 4, none⟩) lZ).trans q4
    have g5 := (bA.frozen (p := ⟨wb, o + 5, none⟩) lZ).trans q5
    clear e4 e5 q4 q5 bA
    go_wp2_with fail
    refine bodyPost_ret (v := .int .i64 0) (by simp [results, Try.results87, go_sem]) rfl ⟨rfl, wb7.alloc (.cells #[.bool b, .slice A es.length c, .slice Q2 kz.length m2] 60), ⟨b, es, kz, A, c, Q2, m2⟩, wb7.heap.size, hyp, bZ.alloc bZ.size _, (World.setCell_alloc_past _ _ _ _ lZ).symm, bZ.size, Blk.new _ _ _, ?_⟩
    refine (O7.ns.agree (Agree.of_below (B := wb7.heap.size) ((Below.refl _ _).alloc (Nat.le_refl _) _) (fun g hg => ?_))).mono fun g hg => ⟨?_, ?_⟩
    · exact Nat.lt_of_lt_of_le hg.2 (by omega)
    · exact Nat.le_trans (by have := bW.size; have := hS0.size; omega) hg.1
    · simp only [World.size_alloc]
      exact Nat.lt_trans (Nat.lt_of_lt_of_le hg.2 (by omega)) (Nat.lt_succ_self _)

set_option maxRecDepth 100000 in
set_option maxHeartbeats 4000000 in
theorem beside_left (h : Nat) (S : Nat → Prop) (ns : List P3) (wb o i j d : Nat) (hj : j + 1 = i) (ks : List K) (Q : Option Addr) (m : Nat) (n : P3) (b : Bool) (hb1 : n.1 = b) (F : Nat → Prop) (u4 u5 : Value) (w : World) (hh : Hp w h S ns) (hK : KsF w F ks Q m) (hF : ∀ g, F g → g < w.heap.size) (hwb : wb < w.heap.size)
    (c2 : w.cell? ⟨wb, o + 2, none⟩ = some (.slice Q ks.length m)) (c3 : w.cell? ⟨wb, o + 3, none⟩ = some (.int .i64 (i : Int))) (c4 : w.cell? ⟨wb, o + 4, none⟩ = some u4) (c5 : w.cell? ⟨wb, o + 5, none⟩ = some u5) (f4 : w.frozen? ⟨wb, o + 4, none⟩ = false) (f5 : w.frozen? ⟨wb, o + 5, none⟩ = false)
    (hi : i < ks.length) (h2 : 1 < ks.length) (hc : ¬ i + 1 < ks.length) (hl : ks.length ≤ 1000) (hd : d < 1000) (hp : pageE ns (ks[j]?.getD zK).r d = .ok n) :
    Calls Try.prog 87 #[clim h, .pointer (some ⟨wb, o, none⟩), .int .i64 (d : Int), .bool b] w (BsPost w wb (o + 4) n) := by
  have hk1 : j < ks.length := by omega
  obtain ⟨bk, off, rfl, hbk, _, q1, q2, q3, q4⟩ := hK.ks.at_ hk1
  have hfit := hK.2.2.2.2 _ (List.getElem_mem hk1)
  rw [List.getElem?_eq_getElem hk1, Option.getD_some] at hp
  generalize ks[j] = kk at q1 q2 q3 q4 hfit hp
  have bW := (Below.refl w.heap.size w).alloc (Nat.le_refl _) (.cells #[.iface 23 (.pointer (some ⟨h, 0, none⟩))] 111)
  have kC := Blk.new w 111 #[.iface 23 (.pointer (some ⟨h, 0, none⟩))]
  have lC : w.heap.size < (w.alloc (.cells #[.iface 23 (.pointer (some ⟨h, 0, none⟩))] 111)).heap.size := by simp
  have HP := vers.lay (show ∀ wx : World, Below w.heap.size w wx → Calls Try.prog 80 #[clim h, kk.r.val, .int .i64 (d : Int)] wx (PPost wx (.ok n)) from fun wx hb => by
    have := page_any kk.r d h S ns wx (hh.below hb) hfit.2 (by omega)
    rwa [hp] at this)
  have HHi := vers.lay hi
  have HHl := vers.lay hl
  clear hh hK hp hfit
  have lW : wb < (w.alloc (.cells #[.iface 23 (.pointer (some ⟨h, 0, none⟩))] 111)).heap.size := by simp; omega
  have lK : bk < (w.alloc (.cells #[.iface 23 (.pointer (some ⟨h, 0, none⟩))] 111)).heap.size := by simp; omega
  have a2 := (bW.cell (p := ⟨wb, o + 2, none⟩) hwb).trans c2
  have a3 := (bW.cell (p := ⟨wb, o + 3, none⟩) hwb).trans c3
  have a4 := (bW.cell (p := ⟨wb, o + 4, none⟩) hwb).trans c4
  have a5 := (bW.cell (p := ⟨wb, o + 5, none⟩) hwb).trans c5
  have g4 := (bW.frozen (p := ⟨wb, o + 4, none⟩) hwb).trans f4
  have g5 := (bW.frozen (p := ⟨wb, o + 5, none⟩) hwb).trans f5
  have p1 := (bW.cell (p := ⟨bk, off + (j) * 5 + 1, none⟩) hbk).trans q1
  have p2 := (bW.cell (p := ⟨bk, off + (j) * 5 + 2, none⟩) hbk).trans q2
  have p3 := (bW.cell (p := ⟨bk, off + (j) * 5 + 3, none⟩) hbk).trans q3
  have p4 := (bW.cell (p := ⟨bk, off + (j) * 5 + 4, none⟩) hbk).trans q4
  have kc := kC.cell 0
  simp only [List.getElem?_toArray, List.getElem?_cons_zero, List.getElem?_cons_succ] at kc
  clear c2 c3 c4 c5 f4 f5 q1 q2 q3 q4
  go_enter Try.func87, Try.ntmps87
  go_wp2_with fail
  generalize hWW : w.alloc (.cells #[.iface 23 (.pointer (some ⟨h, 0, none⟩))] 111) = W at *
  obtain ⟨N, hN, hM⟩ := norms (fun wx => Below W.heap.size W wx) W (Below.refl _ _)
  have hne : Nonempty World := ⟨W⟩
  have v2 := fun n => ((hN n).cell (p := ⟨wb, o + 2, none⟩) lW).trans a2
  have v3 := fun n => ((hN n).cell (p := ⟨wb, o + 3, none⟩) lW).trans a3
  have e1 : IntKind.i64.wrap ((i : Int) + 1) = (i : Int) + 1 := IntWalk.i64_in _ (by omega)
  have e2 : IntKind.i64.wrap ((i : Int) - 1) = (i : Int) - 1 := IntWalk.i64_in _ (by omega)
  have d1 : decide ((i : Int) + 1 < (ks.length : Int)) = false := decide_eq_false (by omega)
  refine region_class N (by kernel_rfl) (by kernel_rfl) (hM _ (Below.refl _ W).drew) ?_
  repeat (go_big_quiet_step (fail))
  refine wpQuiet_nil ?_
  rintro _ ⟨nn, rfl⟩
  have I9 := hN nn
  generalize N nn = W1 at I9 ⊢
  have sW1 := I9.size
  have b2 := (I9.cell (p := ⟨wb, o + 2, none⟩) lW).trans a2
  have b3 := (I9.cell (p := ⟨wb, o + 3, none⟩) lW).trans a3
  have b4 := (I9.cell (p := ⟨wb, o + 4, none⟩) lW).trans a4
  have b5 := (I9.cell (p := ⟨wb, o + 5, none⟩) lW).trans a5
  have h4 := (I9.frozen (p := ⟨wb, o + 4, none⟩) lW).trans g4
  have h5 := (I9.frozen (p := ⟨wb, o + 5, none⟩) lW).trans g5
  have r1 := (I9.cell (p := ⟨bk, off + (j) * 5 + 1, none⟩) lK).trans p1
  have r2 := (I9.cell (p := ⟨bk, off + (j) * 5 + 2, none⟩) lK).trans p2
  have r3 := (I9.cell (p := ⟨bk, off + (j) * 5 + 3, none⟩) lK).trans p3
  have r4 := (I9.cell (p := ⟨bk, off + (j) * 5 + 4, none⟩) lK).trans p4
  have rc := (I9.cell (p := ⟨w.heap.size, 0, none⟩) lC).trans kc
  clear v2 v3 hN hM N hne a2 a3 a4 a5 g4 g5 p1 p2 p3 p4 kc d1 h2
  go_wp2_with fail
  have ej : (i : Int) - 1 = (j : Int) := by omega
  simp only [ej]
  clear ej hc hj
  have dI : (0 : Int) ≤ (j : Int) ∧ (j : Int) < (ks.length : Int) := by omega
  have lC1 := Nat.lt_of_lt_of_le lC sW1
  have lW1 := Nat.lt_of_lt_of_le lW sW1
  have lK1 := Nat.lt_of_lt_of_le lK sW1
  have hS0 : Below W1.heap.size W1 W1.drew := (Below.refl _ _).drew
  refine mix.region_D (fun w' => Below W1.heap.size W1 w') (fun j => j == 17) (by kernel_rfl) ?_
  generalize W1.drew = W1d at hS0 ⊢
  refine mix.D_take (i := 0) (v := ?_) rfl (by kernel_rfl) (by kernel_rfl) (fun _ _ _ h => h) (Or.inl ⟨by rfl, ?_⟩) hS0 ?_
  rotate_left
  · intro w' hSw
    have y0 := (hSw.cell (p := ⟨w.heap.size, 0, none⟩) lC1).trans rc
    have y1 := (hSw.cell (p := ⟨wb, o + 2, none⟩) lW1).trans b2
    have y2 := (hSw.cell (p := ⟨bk, off + (j) * 5 + 1, none⟩) lK1).trans r1
    have y3 := (hSw.cell (p := ⟨bk, off + (j) * 5 + 2, none⟩) lK1).trans r2
    have y4 := (hSw.cell (p := ⟨bk, off + (j) * 5 + 3, none⟩) lK1).trans r3
    have y5 := (hSw.cell (p := ⟨bk, off + (j) * 5 + 4, none⟩) lK1).trans r4
    try simp only [List.getElem_toArray, List.getElem_cons_zero, List.getElem_cons_succ]
    go_simp
    exact rfl
  try simp only [Act.put, List.setIfInBounds_toArray, List.set_cons_zero, List.set_cons_succ, List.getElem_toArray, List.getElem_cons_zero, List.getElem_cons_succ]
  refine mix.D_take (i := 1) (v := ?_) rfl (by kernel_rfl) (by kernel_rfl) (fun _ _ _ h => h) (Or.inl ⟨by rfl, ?_⟩) hS0 ?_
  rotate_left
  · intro w' hSw
    have y0 := (hSw.cell (p := ⟨w.heap.size, 0, none⟩) lC1).trans rc
    have y1 := (hSw.cell (p := ⟨wb, o + 2, none⟩) lW1).trans b2
    have y2 := (hSw.cell (p := ⟨bk, off + (j) * 5 + 1, none⟩) lK1).trans r1
    have y3 := (hSw.cell (p := ⟨bk, off + (j) * 5 + 2, none⟩) lK1).trans r2
    have y4 := (hSw.cell (p := ⟨bk, off + (j) * 5 + 3, none⟩) lK1).trans r3
    have y5 := (hSw.cell (p := ⟨bk, off + (j) * 5 + 4, none⟩) lK1).trans r4
    try simp only [List.getElem_toArray, List.getElem_cons_zero, List.getElem_cons_succ]
    go_simp
    exact rfl
  try simp only [Act.put, List.setIfInBounds_toArray, List.set_cons_zero, List.set_cons_succ, List.getElem_toArray, List.getElem_cons_zero, List.getElem_cons_succ]
  refine mix.D_take (i := 2) (v := ?_) rfl (by kernel_rfl) (by kernel_rfl) (fun _ _ _ h => h) (Or.inl ⟨by rfl, ?_⟩) hS0 ?_
  rotate_left
  · intro w' hSw
    have y0 := (hSw.cell (p := ⟨w.heap.size, 0, none⟩) lC1).trans rc
    have y1 := (hSw.cell (p := ⟨wb, o + 2, none⟩) lW1).trans b2
    have y2 := (hSw.cell (p := ⟨bk, off + (j) * 5 + 1, none⟩) lK1).trans r1
    have y3 := (hSw.cell (p := ⟨bk, off + (j) * 5 + 2, none⟩) lK1).trans r2
    have y4 := (hSw.cell (p := ⟨bk, off + (j) * 5 + 3, none⟩) lK1).trans r3
    have y5 := (hSw.cell (p := ⟨bk, off + (j) * 5 + 4, none⟩) lK1).trans r4
    try simp only [List.getElem_toArray, List.getElem_cons_zero, List.getElem_cons_succ]
    go_simp
    exact rfl
  try simp only [Act.put, List.setIfInBounds_toArray, List.set_cons_zero, List.set_cons_succ, List.getElem_toArray, List.getElem_cons_zero, List.getElem_cons_succ]
  refine mix.D_take (i := 3) (v := ?_) rfl (by kernel_rfl) (by kernel_rfl) (fun _ _ _ h => h) (Or.inl ⟨by rfl, ?_⟩) hS0 ?_
  rotate_left
  · intro w' hSw
    have y0 := (hSw.cell (p := ⟨w.heap.size, 0, none⟩) lC1).trans rc
    have y1 := (hSw.cell (p := ⟨wb, o + 2, none⟩) lW1).trans b2
    have y2 := (hSw.cell (p := ⟨bk, off + (j) * 5 + 1, none⟩) lK1).trans r1
    have y3 := (hSw.cell (p := ⟨bk, off + (j) * 5 + 2, none⟩) lK1).trans r2
    have y4 := (hSw.cell (p := ⟨bk, off + (j) * 5 + 3, none⟩) lK1).trans r3
    have y5 := (hSw.cell (p := ⟨bk, off + (j) * 5 + 4, none⟩) lK1).trans r4
    try simp only [List.getElem_toArray, List.getElem_cons_zero, List.getElem_cons_succ]
    go_simp
    exact rfl
  try simp only [Act.put, List.setIfInBounds_toArray, List.set_cons_zero, List.set_cons_succ, List.getElem_toArray, List.getElem_cons_zero, List.getElem_cons_succ]
  refine mix.D_take (i := 4) (v := ?_) rfl (by kernel_rfl) (by kernel_rfl) (fun _ _ _ h => h) (Or.inl ⟨by rfl, ?_⟩) hS0 ?_
  rotate_left
  · intro w' hSw
    have y0 := (hSw.cell (p := ⟨w.heap.size, 0, none⟩) lC1).trans rc
    have y1 := (hSw.cell (p := ⟨wb, o + 2, none⟩) lW1).trans b2
    have y2 := (hSw.cell (p := ⟨bk, off + (j) * 5 + 1, none⟩) lK1).trans r1
    have y3 := (hSw.cell (p := ⟨bk, off + (j) * 5 + 2, none⟩) lK1).trans r2
    have y4 := (hSw.cell (p := ⟨bk, off + (j) * 5 + 3, none⟩) lK1).trans r3
    have y5 := (hSw.cell (p := ⟨bk, off + (j) * 5 + 4, none⟩) lK1).trans r4
    try simp only [List.getElem_toArray, List.getElem_cons_zero, List.getElem_cons_succ]
    go_simp
    exact rfl
  try simp only [Act.put, List.setIfInBounds_toArray, List.set_cons_zero, List.set_cons_succ, List.getElem_toArray, List.getElem_cons_zero, List.getElem_cons_succ]
  refine mix.D_take (i := 5) (v := ?_) rfl (by kernel_rfl) (by kernel_rfl) (fun _ _ _ h => h) (Or.inl ⟨by rfl, ?_⟩) hS0 ?_
  rotate_left
  · intro w' hSw
    have y0 := (hSw.cell (p := ⟨w.heap.size, 0, none⟩) lC1).trans rc
    have y1 := (hSw.cell (p := ⟨wb, o + 2, none⟩) lW1).trans b2
    have y2 := (hSw.cell (p := ⟨bk, off + (j) * 5 + 1, none⟩) lK1).trans r1
    have y3 := (hSw.cell (p := ⟨bk, off + (j) * 5 + 2, none⟩) lK1).trans r2
    have y4 := (hSw.cell (p := ⟨bk, off + (j) * 5 + 3, none⟩) lK1).trans r3
    have y5 := (hSw.cell (p := ⟨bk, off + (j) * 5 + 4, none⟩) lK1).trans r4
    try simp only [List.getElem_toArray, List.getElem_cons_zero, List.getElem_cons_succ]
    go_simp
    exact rfl
  try simp only [Act.put, List.setIfInBounds_toArray, List.set_cons_zero, List.set_cons_succ, List.getElem_toArray, List.getElem_cons_zero, List.getElem_cons_succ]
  refine mix.D_take (i := 6) (v := ?_) rfl (by kernel_rfl) (by kernel_rfl) (fun _ _ _ h => h) (Or.inl ⟨by rfl, ?_⟩) hS0 ?_
  rotate_left
  · intro w' hSw
    have y0 := (hSw.cell (p := ⟨w.heap.size, 0, none⟩) lC1).trans rc
    have y1 := (hSw.cell (p := ⟨wb, o + 2, none⟩) lW1).trans b2
    have y2 := (hSw.cell (p := ⟨bk, off + (j) * 5 + 1, none⟩) lK1).trans r1
    have y3 := (hSw.cell (p := ⟨bk, off + (j) * 5 + 2, none⟩) lK1).trans r2
    have y4 := (hSw.cell (p := ⟨bk, off + (j) * 5 + 3, none⟩) lK1).trans r3
    have y5 := (hSw.cell (p := ⟨bk, off + (j) * 5 + 4, none⟩) lK1).trans r4
    try simp only [List.getElem_toArray, List.getElem_cons_zero, List.getElem_cons_succ]
    go_simp
    exact rfl
  try simp only [Act.put, List.setIfInBounds_toArray, List.set_cons_zero, List.set_cons_succ, List.getElem_toArray, List.getElem_cons_zero, List.getElem_cons_succ]
  refine mix.D_take (i := 7) (v := ?_) rfl (by kernel_rfl) (by kernel_rfl) (fun _ _ _ h => h) (Or.inl ⟨by rfl, ?_⟩) hS0 ?_
  rotate_left
  · intro w' hSw
    have y0 := (hSw.cell (p := ⟨w.heap.size, 0, none⟩) lC1).trans rc
    have y1 := (hSw.cell (p := ⟨wb, o + 2, none⟩) lW1).trans b2
    have y2 := (hSw.cell (p := ⟨bk, off + (j) * 5 + 1, none⟩) lK1).trans r1
    have y3 := (hSw.cell (p := ⟨bk, off + (j) * 5 + 2, none⟩) lK1).trans r2
    have y4 := (hSw.cell (p := ⟨bk, off + (j) * 5 + 3, none⟩) lK1).trans r3
    have y5 := (hSw.cell (p := ⟨bk, off + (j) * 5 + 4, none⟩) lK1).trans r4
    try simp only [List.getElem_toArray, List.getElem_cons_zero, List.getElem_cons_succ]
    go_simp
    exact rfl
  try simp only [Act.put, List.setIfInBounds_toArray, List.set_cons_zero, List.set_cons_succ, List.getElem_toArray, List.getElem_cons_zero, List.getElem_cons_succ]
  refine mix.D_take (i := 8) (v := ?_) rfl (by kernel_rfl) (by kernel_rfl) (fun _ _ _ h => h) (Or.inl ⟨by rfl, ?_⟩) hS0 ?_
  rotate_left
  · intro w' hSw
    have y0 := (hSw.cell (p := ⟨w.heap.size, 0, none⟩) lC1).trans rc
    have y1 := (hSw.cell (p := ⟨wb, o + 2, none⟩) lW1).trans b2
    have y2 := (hSw.cell (p := ⟨bk, off + (j) * 5 + 1, none⟩) lK1).trans r1
    have y3 := (hSw.cell (p := ⟨bk, off + (j) * 5 + 2, none⟩) lK1).trans r2
    have y4 := (hSw.cell (p := ⟨bk, off + (j) * 5 + 3, none⟩) lK1).trans r3
    have y5 := (hSw.cell (p := ⟨bk, off + (j) * 5 + 4, none⟩) lK1).trans r4
    try simp only [List.getElem_toArray, List.getElem_cons_zero, List.getElem_cons_succ]
    go_simp
    exact rfl
  try simp only [Act.put, List.setIfInBounds_toArray, List.set_cons_zero, List.set_cons_succ, List.getElem_toArray, List.getElem_cons_zero, List.getElem_cons_succ]
  refine mix.D_take (i := 9) (v := ?_) rfl (by kernel_rfl) (by kernel_rfl) (fun _ _ _ h => h) (Or.inl ⟨by rfl, ?_⟩) hS0 ?_
  rotate_left
  · intro w' hSw
    have y0 := (hSw.cell (p := ⟨w.heap.size, 0, none⟩) lC1).trans rc
    have y1 := (hSw.cell (p := ⟨wb, o + 2, none⟩) lW1).trans b2
    have y2 := (hSw.cell (p := ⟨bk, off + (j) * 5 + 1, none⟩) lK1).trans r1
    have y3 := (hSw.cell (p := ⟨bk, off + (j) * 5 + 2, none⟩) lK1).trans r2
    have y4 := (hSw.cell (p := ⟨bk, off + (j) * 5 + 3, none⟩) lK1).trans r3
    have y5 := (hSw.cell (p := ⟨bk, off + (j) * 5 + 4, none⟩) lK1).trans r4
    try simp only [List.getElem_toArray, List.getElem_cons_zero, List.getElem_cons_succ]
    go_simp
    exact rfl
  try simp only [Act.put, List.setIfInBounds_toArray, List.set_cons_zero, List.set_cons_succ, List.getElem_toArray, List.getElem_cons_zero, List.getElem_cons_succ]
  refine mix.D_take (i := 10) (v := ?_) rfl (by kernel_rfl) (by kernel_rfl) (fun _ _ _ h => h) (Or.inl ⟨by rfl, ?_⟩) hS0 ?_
  rotate_left
  · intro w' hSw
    have y0 := (hSw.cell (p := ⟨w.heap.size, 0, none⟩) lC1).trans rc
    have y1 := (hSw.cell (p := ⟨wb, o + 2, none⟩) lW1).trans b2
    have y2 := (hSw.cell (p := ⟨bk, off + (j) * 5 + 1, none⟩) lK1).trans r1
    have y3 := (hSw.cell (p := ⟨bk, off + (j) * 5 + 2, none⟩) lK1).trans r2
    have y4 := (hSw.cell (p := ⟨bk, off + (j) * 5 + 3, none⟩) lK1).trans r3
    have y5 := (hSw.cell (p := ⟨bk, off + (j) * 5 + 4, none⟩) lK1).trans r4
    try simp only [List.getElem_toArray, List.getElem_cons_zero, List.getElem_cons_succ]
    go_simp
    exact rfl
  try simp only [Act.put, List.setIfInBounds_toArray, List.set_cons_zero, List.set_cons_succ, List.getElem_toArray, List.getElem_cons_zero, List.getElem_cons_succ]
  refine mix.D_two (k := 11) (j := 15) rfl rfl rfl rfl (by kernel_rfl) (fun K' hK => ?_) (fun K' hK => ?_)
  · simp only [List.getElem_toArray, List.getElem_cons_zero, List.getElem_cons_succ]
    go_wp2_with fail
    refine (HP.out _ (bW.trans ((I9.trans (hS0.mono I9.size)).mono bW.size))).mono ?_
    rintro e wb1 ⟨hs1, ⟨lf, es, kz, A, c, Q2, m2⟩, rfl, hyp, O1⟩
    obtain rfl : b = lf := (hb1.symm.trans (congrArg (·.1) hyp.symm))
    have hb1 : Below W1.heap.size W1 wb1 := hS0.trans (hs1.mono hS0.size)
    refine hK.out _ _ (fun _ => hb1) ?_
    clear hK K'
    try simp only [Act.put, List.setIfInBounds_toArray, List.set_cons_zero, List.set_cons_succ]
    refine mix.D_take (i := 12) (v := ?_) rfl (by kernel_rfl) (by kernel_rfl) (fun _ _ _ h => h) (Or.inl ⟨by rfl, ?_⟩) hb1 ?_
    rotate_left
    · intro w' hSw
      have y0 := (hSw.cell (p := ⟨w.heap.size, 0, none⟩) lC1).trans rc
      have y1 := (hSw.cell (p := ⟨wb, o + 2, none⟩) lW1).trans b2
      have y2 := (hSw.cell (p := ⟨bk, off + (j) * 5 + 1, none⟩) lK1).trans r1
      have y3 := (hSw.cell (p := ⟨bk, off + (j) * 5 + 2, none⟩) lK1).trans r2
      have y4 := (hSw.cell (p := ⟨bk, off + (j) * 5 + 3, none⟩) lK1).trans r3
      have y5 := (hSw.cell (p := ⟨bk, off + (j) * 5 + 4, none⟩) lK1).trans r4
      try simp only [List.getElem_toArray, List.getElem_cons_zero, List.getElem_cons_succ]
      go_simp
      exact rfl
    try simp only [Act.put, List.setIfInBounds_toArray, List.set_cons_zero, List.set_cons_succ, List.getElem_toArray, List.getElem_cons_zero, List.getElem_cons_succ]
    refine mix.D_take (i := 13) (v := ?_) rfl (by kernel_rfl) (by kernel_rfl) (fun _ _ _ h => h) (Or.inl ⟨by rfl, ?_⟩) hb1 ?_
    rotate_left
    · intro w' hSw
      have y0 := (hSw.cell (p := ⟨w.heap.size, 0, none⟩) lC1).trans rc
      have y1 := (hSw.cell (p := ⟨wb, o + 2, none⟩) lW1).trans b2
      have y2 := (hSw.cell (p := ⟨bk, off + (j) * 5 + 1, none⟩) lK1).trans r1
      have y3 := (hSw.cell (p := ⟨bk, off + (j) * 5 + 2, none⟩) lK1).trans r2
      have y4 := (hSw.cell (p := ⟨bk, off + (j) * 5 + 3, none⟩) lK1).trans r3
      have y5 := (hSw.cell (p := ⟨bk, off + (j) * 5 + 4, none⟩) lK1).trans r4
      try simp only [List.getElem_toArray, List.getElem_cons_zero, List.getElem_cons_succ]
      go_simp
      exact rfl
    try simp only [Act.put, List.setIfInBounds_toArray, List.set_cons_zero, List.set_cons_succ, List.getElem_toArray, List.getElem_cons_zero, List.getElem_cons_succ]
    refine mix.D_take (i := 14) (v := ?_) rfl (by kernel_rfl) (by kernel_rfl) (fun _ _ _ h => h) (Or.inl ⟨by rfl, ?_⟩) hb1 ?_
    rotate_left
    · intro w' hSw
      have y0 := (hSw.cell (p := ⟨w.heap.size, 0, none⟩) lC1).trans rc
      have y1 := (hSw.cell (p := ⟨wb, o + 2, none⟩) lW1).trans b2
      have y2 := (hSw.cell (p := ⟨bk, off + (j) * 5 + 1, none⟩) lK1).trans r1
      have y3 := (hSw.cell (p := ⟨bk, off + (j) * 5 + 2, none⟩) lK1).trans r2
      have y4 := (hSw.cell (p := ⟨bk, off + (j) * 5 + 3, none⟩) lK1).trans r3
      have y5 := (hSw.cell (p := ⟨bk, off + (j) * 5 + 4, none⟩) lK1).trans r4
      try simp only [List.getElem_toArray, List.getElem_cons_zero, List.getElem_cons_succ]
      go_simp
      exact rfl
    try simp only [Act.put, List.setIfInBounds_toArray, List.set_cons_zero, List.set_cons_succ, List.getElem_toArray, List.getElem_cons_zero, List.getElem_cons_succ]
    refine mix.D_op (k := 15) rfl rfl (by kernel_rfl) (fun K' hK => ?_)
    simp only [List.getElem_toArray, List.getElem_cons_zero, List.getElem_cons_succ]
    go_wp2_with fail
    have hs2 : Below wb1.heap.size wb1 (wb1.alloc (.cells #[.bool false, .slice none 0 0, .slice none 0 0] 60)) := (Below.refl _ _).alloc (Nat.le_refl _) _
    have G2 := Blk.new wb1 60 #[.bool false, .slice none 0 0, .slice none 0 0]
    have hsz2 : wb1.heap.size < (wb1.alloc (.cells #[.bool false, .slice none 0 0, .slice none 0 0] 60)).heap.size := by simp
    have hg2 := vers.lay (rfl : wb1.heap.size = wb1.heap.size)
    generalize wb1.alloc (.cells #[.bool false, .slice none 0 0, .slice none 0 0] 60) = wa2 at hs2 G2 hsz2 ⊢
    have O2 := (O1.agree (Agree.of_below hs2 (fun g hg => hg.2)))
    have hb2 : Below W1.heap.size W1 wa2 := hb1.trans (hs2.mono hb1.size)
    refine hK.out _ _ (fun _ => hb2) ?_
    clear hK K'
    try simp only [Act.put, List.setIfInBounds_toArray, List.set_cons_zero, List.set_cons_succ]
    refine mix.D_op (k := 16) rfl rfl (by kernel_rfl) (fun K' hK => ?_)
    simp only [List.getElem_toArray, List.getElem_cons_zero, List.getElem_cons_succ]
    have f0 := G2.frozen 0
    have f1 := G2.frozen 1
    have f2 := G2.frozen 2
    have l0 := G2.lt
    have n0 := G2.cell 0
    have n1 := G2.cell 1
    have n2 := G2.cell 2
    simp at n0 n1 n2
    go_wp2_with fail
    have hk3 := set3_blk G2 (.bool b) (.slice A es.length c) (.slice Q2 kz.length m2)
    have hb3 : Below W1.heap.size W1 _ := set3_below hb2 (g := wb1.heap.size) (hb1.size) (.bool b) (.slice A es.length c) (.slice Q2 kz.length m2)
    have hs3 := Nat.le_of_eq (set3_size wa2 wb1.heap.size (.bool b) (.slice A es.length c) (.slice Q2 kz.length m2)).symm
    have O3 := O2.agree (set3_agree (g := wb1.heap.size) (fun g hg => by have h1 := hg.1; have h2 := hg.2; omega) (.bool b) (.slice A es.length c) (.slice Q2 kz.length m2))
    unfold set3 at hk3 hb3 hs3 O3
    clear f0 f1 f2 l0 n0 n1 n2
    generalize ((wa2.setCell ⟨wb1.heap.size, 0, none⟩ (.bool b)).setCell ⟨wb1.heap.size, 1, none⟩ (.slice A es.length c)).setCell ⟨wb1.heap.size, 2, none⟩ (.slice Q2 kz.length m2) = wb3 at hk3 hb3 hs3 O3 ⊢
    refine hK.out _ _ (fun _ => hb3) ?_
    clear hK K'
    try simp only [Act.put, List.setIfInBounds_toArray, List.set_cons_zero, List.set_cons_succ]
    refine mix.D_op (k := 17) rfl rfl (by kernel_rfl) (fun K' hK => ?_)
    simp only [List.getElem_toArray, List.getElem_cons_zero, List.getElem_cons_succ]
    go_wp2_with fail
    refine hK.out _ _ (fun h => by simp at h) ?_
    clear hK K'
    refine mix.D_done (by kernel_rfl) ?_ _
    try simp only [Act.put, List.getElem_toArray, List.getElem_cons_zero, List.getElem_cons_succ, List.setIfInBounds_toArray, List.set_cons_zero, List.set_cons_succ]
    have z0 := hk3.cell 0
    have z1 := hk3.cell 1
    have z2 := hk3.cell 2
    simp at z0 z1 z2
    have zl := hk3.lt
    have e4 := (hb3.cell (p := ⟨wb, o + 4, none⟩) lW1).trans b4
    have e5 := (hb3.cell (p := ⟨wb, o + 5, none⟩) lW1).trans b5
    have q4 := (hb3.frozen (p := ⟨wb, o + 4, none⟩) lW1).trans h4
    have q5 := (hb3.frozen (p := ⟨wb, o + 5, none⟩) lW1).trans h5
    have d9 : (b != b) = false := by cases b <;> rfl
    have bZ := bW.trans ((I9.trans (hb3.mono I9.size)).mono bW.size)
    have lZ := Nat.lt_of_lt_of_le lW1 (hb3.size)
    have bA := (Below.refl wb3.heap.size wb3).alloc (Nat.le_refl _) (.cells #[.bool b, .slice A es.length c, .slice Q2 kz.length m2] 60)
    have a4 := (bA.cell (p := ⟨wb, o + 4, none⟩) lZ).trans e4
    have a5 := (bA.cell (p := ⟨wb, o + 5, none⟩) lZ).trans e5
    have g4 := (bA.frozen (p := ⟨wb, o + 4, none⟩) lZ).trans q4
    have g5 := (bA.frozen (p := ⟨wb, o + 5, none⟩) lZ).trans q5
    clear e4 e5 q4 q5 bA
    go_wp2_with fail
    refine bodyPost_ret (v := .int .i64 0) (by simp [results, Try.results87, go_sem]) rfl ⟨rfl, wb3.alloc (.cells #[.bool b, .slice A es.length c, .slice Q2 kz.length m2] 60), ⟨b, es, kz, A, c, Q2, m2⟩, wb3.heap.size, hyp, bZ.alloc bZ.size _, (World.setCell_alloc_past _ _ _ _ lZ).symm, bZ.size, Blk.new _ _ _, ?_⟩
    refine (O3.ns.agree (Agree.of_below (B := wb3.heap.size) ((Below.refl _ _).alloc (Nat.le_refl _) _) (fun g hg => ?_))).mono fun g hg => ⟨?_, ?_⟩
    · exact Nat.lt_of_lt_of_le hg.2 (by omega)
    · exact Nat.le_trans (by have := bW.size; have := hS0.size; omega) hg.1
    · simp only [World.size_alloc]
      exact Nat.lt_trans (Nat.lt_of_lt_of_le hg.2 (by omega)) (Nat.lt_succ_self _)
  · simp only [List.getElem_toArray, List.getElem_cons_zero, List.getElem_cons_succ]
    go_wp2_with fail
    have hs5 : Below W1d.heap.size W1d (W1d.alloc (.cells #[.bool false, .slice none 0 0, .slice none 0 0] 60)) := (Below.refl _ _).alloc (Nat.le_refl _) _
    have G5 := Blk.new W1d 60 #[.bool false, .slice none 0 0, .slice none 0 0]
    have hsz5 : W1d.heap.size < (W1d.alloc (.cells #[.bool false, .slice none 0 0, .slice none 0 0] 60)).heap.size := by simp
    have hg5 := vers.lay (rfl : W1d.heap.size = W1d.heap.size)
    generalize W1d.alloc (.cells #[.bool false, .slice none 0 0, .slice none 0 0] 60) = wa5 at hs5 G5 hsz5 ⊢
    have hb5 : Below W1.heap.size W1 wa5 := hS0.trans (hs5.mono hS0.size)
    refine hK.out _ _ (fun _ => hb5) ?_
    clear hK K'
    try simp only [Act.put, List.setIfInBounds_toArray, List.set_cons_zero, List.set_cons_succ]
    refine mix.D_op (k := 11) rfl rfl (by kernel_rfl) (fun K' hK => ?_)
    simp only [List.getElem_toArray, List.getElem_cons_zero, List.getElem_cons_succ]
    go_wp2_with fail
    refine (HP.out _ (bW.trans ((I9.trans (hb5.mono I9.size)).mono bW.size))).mono ?_
    rintro e wb6 ⟨hs6, ⟨lf, es, kz, A, c, Q2, m2⟩, rfl, hyp, O6⟩
    obtain rfl : b = lf := (hb1.symm.trans (congrArg (·.1) hyp.symm))
    have G6 := G5.below hs6 G5.lt
    have hb6 : Below W1.heap.size W1 wb6 := hb5.trans (hs6.mono hb5.size)
    refine hK.out _ _ (fun _ => hb6) ?_
    clear hK K'
    try simp only [Act.put, List.setIfInBounds_toArray, List.set_cons_zero, List.set_cons_succ]
    refine mix.D_take (i := 12) (v := ?_) rfl (by kernel_rfl) (by kernel_rfl) (fun _ _ _ h => h) (Or.inl ⟨by rfl, ?_⟩) hb6 ?_
    rotate_left
    · intro w' hSw
      have y0 := (hSw.cell (p := ⟨w.heap.size, 0, none⟩) lC1).trans rc
      have y1 := (hSw.cell (p := ⟨wb, o + 2, none⟩) lW1).trans b2
      have y2 := (hSw.cell (p := ⟨bk, off + (j) * 5 + 1, none⟩) lK1).trans r1
      have y3 := (hSw.cell (p := ⟨bk, off + (j) * 5 + 2, none⟩) lK1).trans r2
      have y4 := (hSw.cell (p := ⟨bk, off + (j) * 5 + 3, none⟩) lK1).trans r3
      have y5 := (hSw.cell (p := ⟨bk, off + (j) * 5 + 4, none⟩) lK1).trans r4
      try simp only [List.getElem_toArray, List.getElem_cons_zero, List.getElem_cons_succ]
      go_simp
      exact rfl
    try simp only [Act.put, List.setIfInBounds_toArray, List.set_cons_zero, List.set_cons_succ, List.getElem_toArray, List.getElem_cons_zero, List.getElem_cons_succ]
    refine mix.D_take (i := 13) (v := ?_) rfl (by kernel_rfl) (by kernel_rfl) (fun _ _ _ h => h) (Or.inl ⟨by rfl, ?_⟩) hb6 ?_
    rotate_left
    · intro w' hSw
      have y0 := (hSw.cell (p := ⟨w.heap.size, 0, none⟩) lC1).trans rc
      have y1 := (hSw.cell (p := ⟨wb, o + 2, none⟩) lW1).trans b2
      have y2 := (hSw.cell (p := ⟨bk, off + (j) * 5 + 1, none⟩) lK1).trans r1
      have y3 := (hSw.cell (p := ⟨bk, off + (j) * 5 + 2, none⟩) lK1).trans r2
      have y4 := (hSw.cell (p := ⟨bk, off + (j) * 5 + 3, none⟩) lK1).trans r3
      have y5 := (hSw.cell (p := ⟨bk, off + (j) * 5 + 4, none⟩) lK1).trans r4
      try simp only [List.getElem_toArray, List.getElem_cons_zero, List.getElem_cons_succ]
      go_simp
      exact rfl
    try simp only [Act.put, List.setIfInBounds_toArray, List.set_cons_zero, List.set_cons_succ, List.getElem_toArray, List.getElem_cons_zero, List.getElem_cons_succ]
    refine mix.D_take (i := 14) (v := ?_) rfl (by kernel_rfl) (by kernel_rfl) (fun _ _ _ h => h) (Or.inl ⟨by rfl, ?_⟩) hb6 ?_
    rotate_left
    · intro w' hSw
      have y0 := (hSw.cell (p := ⟨w.heap.size, 0, none⟩) lC1).trans rc
      have y1 := (hSw.cell (p := ⟨wb, o + 2, none⟩) lW1).trans b2
      have y2 := (hSw.cell (p := ⟨bk, off + (j) * 5 + 1, none⟩) lK1).trans r1
      have y3 := (hSw.cell (p := ⟨bk, off + (j) * 5 + 2, none⟩) lK1).trans r2
      have y4 := (hSw.cell (p := ⟨bk, off + (j) * 5 + 3, none⟩) lK1).trans r3
      have y5 := (hSw.cell (p := ⟨bk, off + (j) * 5 + 4, none⟩) lK1).trans r4
      try simp only [List.getElem_toArray, List.getElem_cons_zero, List.getElem_cons_succ]
      go_simp
      exact rfl
    try simp only [Act.put, List.setIfInBounds_toArray, List.set_cons_zero, List.set_cons_succ, List.getElem_toArray, List.getElem_cons_zero, List.getElem_cons_succ]
    refine mix.D_op (k := 16) rfl rfl (by kernel_rfl) (fun K' hK => ?_)
    simp only [List.getElem_toArray, List.getElem_cons_zero, List.getElem_cons_succ]
    have f0 := G6.frozen 0
    have f1 := G6.frozen 1
    have f2 := G6.frozen 2
    have l0 := G6.lt
    have n0 := G6.cell 0
    have n1 := G6.cell 1
    have n2 := G6.cell 2
    simp at n0 n1 n2
    go_wp2_with fail
    have hk7 := set3_blk G6 (.bool b) (.slice A es.length c) (.slice Q2 kz.length m2)
    have hb7 : Below W1.heap.size W1 _ := set3_below hb6 (g := W1d.heap.size) (hS0.size) (.bool b) (.slice A es.length c) (.slice Q2 kz.length m2)
    have hs7 := Nat.le_of_eq (set3_size wb6 W1d.heap.size (.bool b) (.slice A es.length c) (.slice Q2 kz.length m2)).symm
    have O7 := O6.agree (set3_agree (g := W1d.heap.size) (fun g hg => by have h1 := hg.1; have h2 := hg.2; omega) (.bool b) (.slice A es.length c) (.slice Q2 kz.length m2))
    unfold set3 at hk7 hb7 hs7 O7
    clear f0 f1 f2 l0 n0 n1 n2
    generalize ((wb6.setCell ⟨W1d.heap.size, 0, none⟩ (.bool b)).setCell ⟨W1d.heap.size, 1, none⟩ (.slice A es.length c)).setCell ⟨W1d.heap.size, 2, none⟩ (.slice Q2 kz.length m2) = wb7 at hk7 hb7 hs7 O7 ⊢
    refine hK.out _ _ (fun _ => hb7) ?_
    clear hK K'
    try simp only [Act.put, List.setIfInBounds_toArray, List.set_cons_zero, List.set_cons_succ]
    refine mix.D_op (k := 17) rfl rfl (by kernel_rfl) (fun K' hK => ?_)
    simp only [List.getElem_toArray, List.getElem_cons_zero, List.getElem_cons_succ]
    go_wp2_with fail
    refine hK.out _ _ (fun h => by simp at h) ?_
    clear hK K'
    refine mix.D_done (by kernel_rfl) ?_ _
    try simp only [Act.put, List.getElem_toArray, List.getElem_cons_zero, List.getElem_cons_succ, List.setIfInBounds_toArray, List.set_cons_zero, List.set_cons_succ]
    have z0 := hk7.cell 0
    have z1 := hk7.cell 1
    have z2 := hk7.cell 2
    simp at z0 z1 z2
    have zl := hk7.lt
    have e4 := (hb7.cell (p := ⟨wb, o + 4, none⟩) lW1).trans b4
    have e5 := (hb7.cell (p := ⟨wb, o + 5, none⟩) lW1).trans b5
    have q4 := (hb7.frozen (p := ⟨wb, o + 4, none⟩) lW1).trans h4
    have q5 := (hb7.frozen (p := ⟨wb, o + 5, none⟩) lW1).trans h5
    have d9 : (b != b) = false := by cases b <;> rfl
    have bZ := bW.trans ((I9.trans (hb7.mono I9.size)).mono bW.size)
    have lZ := Nat.lt_of_lt_of_le lW1 (hb7.size)
    have bA := (Below.refl wb7.heap.size wb7).alloc (Nat.le_refl _) (.cells #[.bool b, .slice A es.length c, .slice Q2 kz.length m2] 60)
    have a4 := (bA.cell (p := ⟨wb, o + 4, none⟩) lZ).trans e4
    have a5 := (bA.cell (p := ⟨wb, o + 5, none⟩) lZ).trans e5
    have g4 := (bA.frozen (p := ⟨wb, o + 4, none⟩) lZ).trans q4
    have g5 := (bA.frozen (p := ⟨wb, o + 5, none⟩) lZ).trans q5
    clear e4 e5 q4 q5 bA
    go_wp2_with fail
    refine bodyPost_ret (v := .int .i64 0) (by simp [results, Try.results87, go_sem]) rfl ⟨rfl, wb7.alloc (.cells #[.bool b, .slice A es.length c, .slice Q2 kz.length m2] 60), ⟨b, es, kz, A, c, Q2, m2⟩, wb7.heap.size, hyp, bZ.alloc bZ.size _, (World.setCell_alloc_past _ _ _ _ lZ).symm, bZ.size, Blk.new _ _ _, ?_⟩
    refine (O7.ns.agree (Agree.of_below (B := wb7.heap.size) ((Below.refl _ _).alloc (Nat.le_refl _) _) (fun g hg => ?_))).mono fun g hg => ⟨?_, ?_⟩
    · exact Nat.lt_of_lt_of_le hg.2 (by omega)
    · exact Nat.le_trans (by have := bW.size; have := hS0.size; omega) hg.1
    · simp only [World.size_alloc]
      exact Nat.lt_trans (Nat.lt_of_lt_of_le hg.2 (by omega)) (Nat.lt_succ_self _)
end Go.Proofs.Ytnndohdiiglgmaa.trees

/- climber.beside, all of it. -/

namespace Go.Proofs.Ytnndohdiiglgmaa.trees
set_option linter.unusedVariables false
set_option linter.unusedSimpArgs false
open Go.RowKit Go.Proofs.Ytnndohdiiglgmaa.base Go.Proofs.Ytnndohdiiglgmaa.vers Go.Proofs.Ytnndohdiiglgmaa.nodes Go.Proofs.Ytnndohdiiglgmaa.quotas

/-- what beside leaves where it finds none -/
def BnPost (w : World) (k : Int) (e : Ending) (w' : World) : Prop := e = .returned (.int .i64 k) ∧ Below w.heap.size w w'

set_option maxRecDepth 100000 in
set_option maxHeartbeats 4000000 in
theorem beside_right_mis (h : Nat) (S : Nat → Prop) (ns : List P3) (wb o i j d : Nat) (hj : j = i + 1) (ks : List K) (Q : Option Addr) (m : Nat) (n : P3) (b : Bool) (hb1 : n.1 ≠ b) (F : Nat → Prop) (u4 u5 : Value) (w : World) (hh : Hp w h S ns) (hK : KsF w F ks Q m) (hF : ∀ g, F g → g < w.heap.size) (hwb : wb < w.heap.size)
    (c2 : w.cell? ⟨wb, o + 2, none⟩ = some (.slice Q ks.length m)) (c3 : w.cell? ⟨wb, o + 3, none⟩ = some (.int .i64 (i : Int))) (c4 : w.cell? ⟨wb, o + 4, none⟩ = some u4) (c5 : w.cell? ⟨wb, o + 5, none⟩ = some u5) (f4 : w.frozen? ⟨wb, o + 4, none⟩ = false) (f5 : w.frozen? ⟨wb, o + 5, none⟩ = false)
    (hi : i < ks.length) (h2 : 1 < ks.length) (hc : i + 1 < ks.length) (hl : ks.length ≤ 1000) (hd : d < 1000) (hp : pageE ns (ks[j]?.getD zK).r d = .ok n) :
    Calls Try.prog 87 #[clim h, .pointer (some ⟨wb, o, none⟩), .int .i64 (d : Int), .bool b] w (BnPost w 0) := by
  have hk1 : j < ks.length := by omega
  obtain ⟨bk, off, rfl, hbk, _, q1, q2, q3, q4⟩ := hK.ks.at_ hk1
  have hfit := hK.2.2.2.2 _ (List.getElem_mem hk1)
  rw [List.getElem?_eq_getElem hk1, Option.getD_some] at hp
  generalize ks[j] = kk at q1 q2 q3 q4 hfit hp
  have bW := (Below.refl w.heap.size w).alloc (Nat.le_refl _) (.cells #[.iface 23 (.pointer (some ⟨h, 0, none⟩))] 111)
  have kC := Blk.new w 111 #[.iface 23 (.pointer (some ⟨h, 0, none⟩))]
  have lC : w.heap.size < (w.alloc (.cells #[.iface 23 (.pointer (some ⟨h, 0, none⟩))] 111)).heap.size := by simp
  have HP := vers.lay (show ∀ wx : World, Below w.heap.size w wx → Calls Try.prog 80 #[clim h, kk.r.val, .int .i64 (d : Int)] wx (PPost wx (.ok n)) from fun wx hb => by
    have := page_any kk.r d h S ns wx (hh.below hb) hfit.2 (by omega)
    rwa [hp] at this)
  have HHi := vers.lay hi
  have HHl := vers.lay hl
  clear hh hK hp hfit
  have lW : wb < (w.alloc (.cells #[.iface 23 (.pointer (some ⟨h, 0, none⟩))] 111)).heap.size := by simp; omega
  have lK : bk < (w.alloc (.cells #[.iface 23 (.pointer (some ⟨h, 0, none⟩))] 111)).heap.size := by simp; omega
  have a2 := (bW.cell (p := ⟨wb, o + 2, none⟩) hwb).trans c2
  have a3 := (bW.cell (p := ⟨wb, o + 3, none⟩) hwb).trans c3
  have a4 := (bW.cell (p := ⟨wb, o + 4, none⟩) hwb).trans c4
  have a5 := (bW.cell (p := ⟨wb, o + 5, none⟩) hwb).trans c5
  have g4 := (bW.frozen (p := ⟨wb, o + 4, none⟩) hwb).trans f4
  have g5 := (bW.frozen (p := ⟨wb, o + 5, none⟩) hwb).trans f5
  have p1 := (bW.cell (p := ⟨bk, off + (j) * 5 + 1, none⟩) hbk).trans q1
  have p2 := (bW.cell (p := ⟨bk, off + (j) * 5 + 2, none⟩) hbk).trans q2
  have p3 := (bW.cell (p := ⟨bk, off + (j) * 5 + 3, none⟩) hbk).trans q3
  have p4 := (bW.cell (p := ⟨bk, off + (j) * 5 + 4, none⟩) hbk).trans q4
  have kc := kC.cell 0
  simp only [List.getElem?_toArray, List.getElem?_cons_zero, List.getElem?_cons_succ] at kc
  clear c2 c3 c4 c5 f4 f5 q1 q2 q3 q4
  go_enter Try.func87, Try.ntmps87
  go_wp2_with fail
  generalize hWW : w.alloc (.cells #[.iface 23 (.pointer (some ⟨h, 0, none⟩))] 111) = W at *
  obtain ⟨N, hN, hM⟩ := norms (fun wx => Below W.heap.size W wx) W (Below.refl _ _)
  have hne : Nonempty World := ⟨W⟩
  have v2 := fun n => ((hN n).cell (p := ⟨wb, o + 2, none⟩) lW).trans a2
  have v3 := fun n => ((hN n).cell (p := ⟨wb, o + 3, none⟩) lW).trans a3
  have e1 : IntKind.i64.wrap ((i : Int) + 1) = (i : Int) + 1 := IntWalk.i64_in _ (by omega)
  have e2 : IntKind.i64.wrap ((i : Int) - 1) = (i : Int) - 1 := IntWalk.i64_in _ (by omega)
  have d1 : decide ((i : Int) + 1 < (ks.length : Int)) = true := decide_eq_true (by omega)
  refine region_class N (by kernel_rfl) (by kernel_rfl) (hM _ (Below.refl _ W).drew) ?_
  repeat (go_big_quiet_step (fail))
  refine wpQuiet_nil ?_
  rintro _ ⟨nn, rfl⟩
  have I9 := hN nn
  generalize N nn = W1 at I9 ⊢
  have sW1 := I9.size
  have b2 := (I9.cell (p := ⟨wb, o + 2, none⟩) lW).trans a2
  have b3 := (I9.cell (p := ⟨wb, o + 3, none⟩) lW).trans a3
  have b4 := (I9.cell (p := ⟨wb, o + 4, none⟩) lW).trans a4
  have b5 := (I9.cell (p := ⟨wb, o + 5, none⟩) lW).trans a5
  have h4 := (I9.frozen (p := ⟨wb, o + 4, none⟩) lW).trans g4
  have h5 := (I9.frozen (p := ⟨wb, o + 5, none⟩) lW).trans g5
  have r1 := (I9.cell (p := ⟨bk, off + (j) * 5 + 1, none⟩) lK).trans p1
  have r2 := (I9.cell (p := ⟨bk, off + (j) * 5 + 2, none⟩) lK).trans p2
  have r3 := (I9.cell (p := ⟨bk, off + (j) * 5 + 3, none⟩) lK).trans p3
  have r4 := (I9.cell (p := ⟨bk, off + (j) * 5 + 4, none⟩) lK).trans p4
  have rc := (I9.cell (p := ⟨w.heap.size, 0, none⟩) lC).trans kc
  clear v2 v3 hN hM N hne a2 a3 a4 a5 g4 g5 p1 p2 p3 p4 kc d1 h2
  go_wp2_with fail
  have ej : (i : Int) + 1 = (j : Int) := by omega
  simp only [ej]
  clear ej hc hj
  have dI : (0 : Int) ≤ (j : Int) ∧ (j : Int) < (ks.length : Int) := by omega
  have lC1 := Nat.lt_of_lt_of_le lC sW1
  have lW1 := Nat.lt_of_lt_of_le lW sW1
  have lK1 := Nat.lt_of_lt_of_le lK sW1
  have hS0 : Below W1.heap.size W1 W1.drew := (Below.refl _ _).drew
  refine mix.region_D (fun w' => Below W1.heap.size W1 w') (fun j => j == 17) (by kernel_rfl) ?_
  generalize W1.drew = W1d at hS0 ⊢
  refine mix.D_take (i := 0) (v := ?_) rfl (by kernel_rfl) (by kernel_rfl) (fun _ _ _ h => h) (Or.inl ⟨by rfl, ?_⟩) hS0 ?_
  rotate_left
  · intro w' hSw
    have y0 := (hSw.cell (p := ⟨w.heap.size, 0, none⟩) lC1).trans rc
    have y1 := (hSw.cell (p := ⟨wb, o + 2, none⟩) lW1).trans b2
    have y2 := (hSw.cell (p := ⟨bk, off + (j) * 5 + 1, none⟩) lK1).trans r1
    have y3 := (hSw.cell (p := ⟨bk, off + (j) * 5 + 2, none⟩) lK1).trans r2
    have y4 := (hSw.cell (p := ⟨bk, off + (j) * 5 + 3, none⟩) lK1).trans r3
    have y5 := (hSw.cell (p := ⟨bk, off + (j) * 5 + 4, none⟩) lK1).trans r4
    try simp only [List.getElem_toArray, List.getElem_cons_zero, List.getElem_cons_succ]
    go_simp
    exact rfl
  try simp only [Act.put, List.setIfInBounds_toArray, List.set_cons_zero, List.set_cons_succ, List.getElem_toArray, List.getElem_cons_zero, List.getElem_cons_succ]
  refine mix.D_take (i := 1) (v := ?_) rfl (by kernel_rfl) (by kernel_rfl) (fun _ _ _ h => h) (Or.inl ⟨by rfl, ?_⟩) hS0 ?_
  rotate_left
  · intro w' hSw
    have y0 := (hSw.cell (p := ⟨w.heap.size, 0, none⟩) lC1).trans rc
    have y1 := (hSw.cell (p := ⟨wb, o + 2, none⟩) lW1).trans b2
    have y2 := (hSw.cell (p := ⟨bk, off + (j) * 5 + 1, none⟩) lK1).trans r1
    have y3 := (hSw.cell (p := ⟨bk, off + (j) * 5 + 2, none⟩) lK1).trans r2
    have y4 := (hSw.cell (p := ⟨bk, off + (j) * 5 + 3, none⟩) lK1).trans r3
    have y5 := (hSw.cell (p := ⟨bk, off + (j) * 5 + 4, none⟩) lK1).trans r4
    try simp only [List.getElem_toArray, List.getElem_cons_zero, List.getElem_cons_succ]
    go_simp
    exact rfl
  try simp only [Act.put, List.setIfInBounds_toArray, List.set_cons_zero, List.set_cons_succ, List.getElem_toArray, List.getElem_cons_zero, List.getElem_cons_succ]
  refine mix.D_take (i := 2) (v := ?_) rfl (by kernel_rfl) (by kernel_rfl) (fun _ _ _ h => h) (Or.inl ⟨by rfl, ?_⟩) hS0 ?_
  rotate_left
  · intro w' hSw
    have y0 := (hSw.cell (p := ⟨w.heap.size, 0, none⟩) lC1).trans rc
    have y1 := (hSw.cell (p := ⟨wb, o + 2, none⟩) lW1).trans b2
    have y2 := (hSw.cell (p := ⟨bk, off + (j) * 5 + 1, none⟩) lK1).trans r1
    have y3 := (hSw.cell (p := ⟨bk, off + (j) * 5 + 2, none⟩) lK1).trans r2
    have y4 := (hSw.cell (p := ⟨bk, off + (j) * 5 + 3, none⟩) lK1).trans r3
    have y5 := (hSw.cell (p := ⟨bk, off + (j) * 5 + 4, none⟩) lK1).trans r4
    try simp only [List.getElem_toArray, List.getElem_cons_zero, List.getElem_cons_succ]
    go_simp
    exact rfl
  try simp only [Act.put, List.setIfInBounds_toArray, List.set_cons_zero, List.set_cons_succ, List.getElem_toArray, List.getElem_cons_zero, List.getElem_cons_succ]
  refine mix.D_take (i := 3) (v := ?_) rfl (by kernel_rfl) (by kernel_rfl) (fun _ _ _ h => h) (Or.inl ⟨by rfl, ?_⟩) hS0 ?_
  rotate_left
  · intro w' hSw
    have y0 := (hSw.cell (p := ⟨w.heap.size, 0, none⟩) lC1).trans rc
    have y1 := (hSw.cell (p := ⟨wb, o + 2, none⟩) lW1).trans b2
    have y2 := (hSw.cell (p := ⟨bk, off + (j) * 5 + 1, none⟩) lK1).trans r1
    have y3 := (hSw.cell (p := ⟨bk, off + (j) * 5 + 2, none⟩) lK1).trans r2
    have y4 := (hSw.cell (p := ⟨bk, off + (j) * 5 + 3, none⟩) lK1).trans r3
    have y5 := (hSw.cell (p := ⟨bk, off + (j) * 5 + 4, none⟩) lK1).trans r4
    try simp only [List.getElem_toArray, List.getElem_cons_zero, List.getElem_cons_succ]
    go_simp
    exact rfl
  try simp only [Act.put, List.setIfInBounds_toArray, List.set_cons_zero, List.set_cons_succ, List.getElem_toArray, List.getElem_cons_zero, List.getElem_cons_succ]
  refine mix.D_take (i := 4) (v := ?_) rfl (by kernel_rfl) (by kernel_rfl) (fun _ _ _ h => h) (Or.inl ⟨by rfl, ?_⟩) hS0 ?_
  rotate_left
  · intro w' hSw
    have y0 := (hSw.cell (p := ⟨w.heap.size, 0, none⟩) lC1).trans rc
    have y1 := (hSw.cell (p := ⟨wb, o + 2, none⟩) lW1).trans b2
    have y2 := (hSw.cell (p := ⟨bk, off + (j) * 5 + 1, none⟩) lK1).trans r1
    have y3 := (hSw.cell (p := ⟨bk, off + (j) * 5 + 2, none⟩) lK1).trans r2
    have y4 := (hSw.cell (p := ⟨bk, off + (j) * 5 + 3, none⟩) lK1).trans r3
    have y5 := (hSw.cell (p := ⟨bk, off + (j) * 5 + 4, none⟩) lK1).trans r4
    try simp only [List.getElem_toArray, List.getElem_cons_zero, List.getElem_cons_succ]
    go_simp
    exact rfl
  try simp only [Act.put, List.setIfInBounds_toArray, List.set_cons_zero, List.set_cons_succ, List.getElem_toArray, List.getElem_cons_zero, List.getElem_cons_succ]
  refine mix.D_take (i := 5) (v := ?_) rfl (by kernel_rfl) (by kernel_rfl) (fun _ _ _ h => h) (Or.inl ⟨by rfl, ?_⟩) hS0 ?_
  rotate_left
  · intro w' hSw
    have y0 := (hSw.cell (p := ⟨w.heap.size, 0, none⟩) lC1).trans rc
    have y1 := (hSw.cell (p := ⟨wb, o + 2, none⟩) lW1).trans b2
    have y2 := (hSw.cell (p := ⟨bk, off + (j) * 5 + 1, none⟩) lK1).trans r1
    have y3 := (hSw.cell (p := ⟨bk, off + (j) * 5 + 2, none⟩) lK1).trans r2
    have y4 := (hSw.cell (p := ⟨bk, off + (j) * 5 + 3, none⟩) lK1).trans r3
    have y5 := (hSw.cell (p := ⟨bk, off + (j) * 5 + 4, none⟩) lK1).trans r4
    try simp only [List.getElem_toArray, List.getElem_cons_zero, List.getElem_cons_succ]
    go_simp
    exact rfl
  try simp only [Act.put, List.setIfInBounds_toArray, List.set_cons_zero, List.set_cons_succ, List.getElem_toArray, List.getElem_cons_zero, List.getElem_cons_succ]
  refine mix.D_take (i := 6) (v := ?_) rfl (by kernel_rfl) (by kernel_rfl) (fun _ _ _ h => h) (Or.inl ⟨by rfl, ?_⟩) hS0 ?_
  rotate_left
  · intro w' hSw
    have y0 := (hSw.cell (p := ⟨w.heap.size, 0, none⟩) lC1).trans rc
    have y1 := (hSw.cell (p := ⟨wb, o + 2, none⟩) lW1).trans b2
    have y2 := (hSw.cell (p := ⟨bk, off + (j) * 5 + 1, none⟩) lK1).trans r1
    have y3 := (hSw.cell (p := ⟨bk, off + (j) * 5 + 2, none⟩) lK1).trans r2
    have y4 := (hSw.cell (p := ⟨bk, off + (j) * 5 + 3, none⟩) lK1).trans r3
    have y5 := (hSw.cell (p := ⟨bk, off + (j) * 5 + 4, none⟩) lK1).trans r4
    try simp only [List.getElem_toArray, List.getElem_cons_zero, List.getElem_cons_succ]
    go_simp
    exact rfl
  try simp only [Act.put, List.setIfInBounds_toArray, List.set_cons_zero, List.set_cons_succ, List.getElem_toArray, List.getElem_cons_zero, List.getElem_cons_succ]
  refine mix.D_take (i := 7) (v := ?_) rfl (by kernel_rfl) (by kernel_rfl) (fun _ _ _ h => h) (Or.inl ⟨by rfl, ?_⟩) hS0 ?_
  rotate_left
  · intro w' hSw
    have y0 := (hSw.cell (p := ⟨w.heap.size, 0, none⟩) lC1).trans rc
    have y1 := (hSw.cell (p := ⟨wb, o + 2, none⟩) lW1).trans b2
    have y2 := (hSw.cell (p := ⟨bk, off + (j) * 5 + 1, none⟩) lK1).trans r1
    have y3 := (hSw.cell (p := ⟨bk, off + (j) * 5 + 2, none⟩) lK1).trans r2
    have y4 := (hSw.cell (p := ⟨bk, off + (j) * 5 + 3, none⟩) lK1).trans r3
    have y5 := (hSw.cell (p := ⟨bk, off + (j) * 5 + 4, none⟩) lK1).trans r4
    try simp only [List.getElem_toArray, List.getElem_cons_zero, List.getElem_cons_succ]
    go_simp
    exact rfl
  try simp only [Act.put, List.setIfInBounds_toArray, List.set_cons_zero, List.set_cons_succ, List.getElem_toArray, List.getElem_cons_zero, List.getElem_cons_succ]
  refine mix.D_take (i := 8) (v := ?_) rfl (by kernel_rfl) (by kernel_rfl) (fun _ _ _ h => h) (Or.inl ⟨by rfl, ?_⟩) hS0 ?_
  rotate_left
  · intro w' hSw
    have y0 := (hSw.cell (p := ⟨w.heap.size, 0, none⟩) lC1).trans rc
    have y1 := (hSw.cell (p := ⟨wb, o + 2, none⟩) lW1).trans b2
    have y2 := (hSw.cell (p := ⟨bk, off + (j) * 5 + 1, none⟩) lK1).trans r1
    have y3 := (hSw.cell (p := ⟨bk, off + (j) * 5 + 2, none⟩) lK1).trans r2
    have y4 := (hSw.cell (p := ⟨bk, off + (j) * 5 + 3, none⟩) lK1).trans r3
    have y5 := (hSw.cell (p := ⟨bk, off + (j) * 5 + 4, none⟩) lK1).trans r4
    try simp only [List.getElem_toArray, List.getElem_cons_zero, List.getElem_cons_succ]
    go_simp
    exact rfl
  try simp only [Act.put, List.setIfInBounds_toArray, List.set_cons_zero, List.set_cons_succ, List.getElem_toArray, List.getElem_cons_zero, List.getElem_cons_succ]
  refine mix.D_take (i := 9) (v := ?_) rfl (by kernel_rfl) (by kernel_rfl) (fun _ _ _ h => h) (Or.inl ⟨by rfl, ?_⟩) hS0 ?_
  rotate_left
  · intro w' hSw
    have y0 := (hSw.cell (p := ⟨w.heap.size, 0, none⟩) lC1).trans rc
    have y1 := (hSw.cell (p := ⟨wb, o + 2, none⟩) lW1).trans b2
    have y2 := (hSw.cell (p := ⟨bk, off + (j) * 5 + 1, none⟩) lK1).trans r1
    have y3 := (hSw.cell (p := ⟨bk, off + (j) * 5 + 2, none⟩) lK1).trans r2
    have y4 := (hSw.cell (p := ⟨bk, off + (j) * 5 + 3, none⟩) lK1).trans r3
    have y5 := (hSw.cell (p := ⟨bk, off + (j) * 5 + 4, none⟩) lK1).trans r4
    try simp only [List.getElem_toArray, List.getElem_cons_zero, List.getElem_cons_succ]
    go_simp
    exact rfl
  try simp only [Act.put, List.setIfInBounds_toArray, List.set_cons_zero, List.set_cons_succ, List.getElem_toArray, List.getElem_cons_zero, List.getElem_cons_succ]
  refine mix.D_take (i := 10) (v := ?_) rfl (by kernel_rfl) (by kernel_rfl) (fun _ _ _ h => h) (Or.inl ⟨by rfl, ?_⟩) hS0 ?_
  rotate_left
  · intro w' hSw
    have y0 := (hSw.cell (p := ⟨w.heap.size, 0, none⟩) lC1).trans rc
    have y1 := (hSw.cell (p := ⟨wb, o + 2, none⟩) lW1).trans b2
    have y2 := (hSw.cell (p := ⟨bk, off + (j) * 5 + 1, none⟩) lK1).trans r1
    have y3 := (hSw.cell (p := ⟨bk, off + (j) * 5 + 2, none⟩) lK1).trans r2
    have y4 := (hSw.cell (p := ⟨bk, off + (j) * 5 + 3, none⟩) lK1).trans r3
    have y5 := (hSw.cell (p := ⟨bk, off + (j) * 5 + 4, none⟩) lK1).trans r4
    try simp only [List.getElem_toArray, List.getElem_cons_zero, List.getElem_cons_succ]
    go_simp
    exact rfl
  try simp only [Act.put, List.setIfInBounds_toArray, List.set_cons_zero, List.set_cons_succ, List.getElem_toArray, List.getElem_cons_zero, List.getElem_cons_succ]
  refine mix.D_two (k := 11) (j := 15) rfl rfl rfl rfl (by kernel_rfl) (fun K' hK => ?_) (fun K' hK => ?_)
  · simp only [List.getElem_toArray, List.getElem_cons_zero, List.getElem_cons_succ]
    go_wp2_with fail
    refine (HP.out _ (bW.trans ((I9.trans (hS0.mono I9.size)).mono bW.size))).mono ?_
    rintro e wb1 ⟨hs1, ⟨lf, es, kz, A, c, Q2, m2⟩, rfl, hyp, O1⟩
    have hlf : lf ≠ b := fun h => hb1 ((congrArg (·.1) hyp.symm).trans h)
    clear O1
    have hb1 : Below W1.heap.size W1 wb1 := hS0.trans (hs1.mono hS0.size)
    refine hK.out _ _ (fun _ => hb1) ?_
    clear hK K'
    try simp only [Act.put, List.setIfInBounds_toArray, List.set_cons_zero, List.set_cons_succ]
    refine mix.D_take (i := 12) (v := ?_) rfl (by kernel_rfl) (by kernel_rfl) (fun _ _ _ h => h) (Or.inl ⟨by rfl, ?_⟩) hb1 ?_
    rotate_left
    · intro w' hSw
      have y0 := (hSw.cell (p := ⟨w.heap.size, 0, none⟩) lC1).trans rc
      have y1 := (hSw.cell (p := ⟨wb, o + 2, none⟩) lW1).trans b2
      have y2 := (hSw.cell (p := ⟨bk, off + (j) * 5 + 1, none⟩) lK1).trans r1
      have y3 := (hSw.cell (p := ⟨bk, off + (j) * 5 + 2, none⟩) lK1).trans r2
      have y4 := (hSw.cell (p := ⟨bk, off + (j) * 5 + 3, none⟩) lK1).trans r3
      have y5 := (hSw.cell (p := ⟨bk, off + (j) * 5 + 4, none⟩) lK1).trans r4
      try simp only [List.getElem_toArray, List.getElem_cons_zero, List.getElem_cons_succ]
      go_simp
      exact rfl
    try simp only [Act.put, List.setIfInBounds_toArray, List.set_cons_zero, List.set_cons_succ, List.getElem_toArray, List.getElem_cons_zero, List.getElem_cons_succ]
    refine mix.D_take (i := 13) (v := ?_) rfl (by kernel_rfl) (by kernel_rfl) (fun _ _ _ h => h) (Or.inl ⟨by rfl, ?_⟩) hb1 ?_
    rotate_left
    · intro w' hSw
      have y0 := (hSw.cell (p := ⟨w.heap.size, 0, none⟩) lC1).trans rc
      have y1 := (hSw.cell (p := ⟨wb, o + 2, none⟩) lW1).trans b2
      have y2 := (hSw.cell (p := ⟨bk, off + (j) * 5 + 1, none⟩) lK1).trans r1
      have y3 := (hSw.cell (p := ⟨bk, off + (j) * 5 + 2, none⟩) lK1).trans r2
      have y4 := (hSw.cell (p := ⟨bk, off + (j) * 5 + 3, none⟩) lK1).trans r3
      have y5 := (hSw.cell (p := ⟨bk, off + (j) * 5 + 4, none⟩) lK1).trans r4
      try simp only [List.getElem_toArray, List.getElem_cons_zero, List.getElem_cons_succ]
      go_simp
      exact rfl
    try simp only [Act.put, List.setIfInBounds_toArray, List.set_cons_zero, List.set_cons_succ, List.getElem_toArray, List.getElem_cons_zero, List.getElem_cons_succ]
    refine mix.D_take (i := 14) (v := ?_) rfl (by kernel_rfl) (by kernel_rfl) (fun _ _ _ h => h) (Or.inl ⟨by rfl, ?_⟩) hb1 ?_
    rotate_left
    · intro w' hSw
      have y0 := (hSw.cell (p := ⟨w.heap.size, 0, none⟩) lC1).trans rc
      have y1 := (hSw.cell (p := ⟨wb, o + 2, none⟩) lW1).trans b2
      have y2 := (hSw.cell (p := ⟨bk, off + (j) * 5 + 1, none⟩) lK1).trans r1
      have y3 := (hSw.cell (p := ⟨bk, off + (j) * 5 + 2, none⟩) lK1).trans r2
      have y4 := (hSw.cell (p := ⟨bk, off + (j) * 5 + 3, none⟩) lK1).trans r3
      have y5 := (hSw.cell (p := ⟨bk, off + (j) * 5 + 4, none⟩) lK1).trans r4
      try simp only [List.getElem_toArray, List.getElem_cons_zero, List.getElem_cons_succ]
      go_simp
      exact rfl
    try simp only [Act.put, List.setIfInBounds_toArray, List.set_cons_zero, List.set_cons_succ, List.getElem_toArray, List.getElem_cons_zero, List.getElem_cons_succ]
    refine mix.D_op (k := 15) rfl rfl (by kernel_rfl) (fun K' hK => ?_)
    simp only [List.getElem_toArray, List.getElem_cons_zero, List.getElem_cons_succ]
    go_wp2_with fail
    have hs2 : Below wb1.heap.size wb1 (wb1.alloc (.cells #[.bool false, .slice none 0 0, .slice none 0 0] 60)) := (Below.refl _ _).alloc (Nat.le_refl _) _
    have G2 := Blk.new wb1 60 #[.bool false, .slice none 0 0, .slice none 0 0]
    have hsz2 : wb1.heap.size < (wb1.alloc (.cells #[.bool false, .slice none 0 0, .slice none 0 0] 60)).heap.size := by simp
    have hg2 := vers.lay (rfl : wb1.heap.size = wb1.heap.size)
    generalize wb1.alloc (.cells #[.bool false, .slice none 0 0, .slice none 0 0] 60) = wa2 at hs2 G2 hsz2 ⊢
    have hb2 : Below W1.heap.size W1 wa2 := hb1.trans (hs2.mono hb1.size)
    refine hK.out _ _ (fun _ => hb2) ?_
    clear hK K'
    try simp only [Act.put, List.setIfInBounds_toArray, List.set_cons_zero, List.set_cons_succ]
    refine mix.D_op (k := 16) rfl rfl (by kernel_rfl) (fun K' hK => ?_)
    simp only [List.getElem_toArray, List.getElem_cons_zero, List.getElem_cons_succ]
    have f0 := G2.frozen 0
    have f1 := G2.frozen 1
    have f2 := G2.frozen 2
    have l0 := G2.lt
    have n0 := G2.cell 0
    have n1 := G2.cell 1
    have n2 := G2.cell 2
    simp at n0 n1 n2
    go_wp2_with fail
    have hk3 := set3_blk G2 (.bool lf) (.slice A es.length c) (.slice Q2 kz.length m2)
    have hb3 : Below W1.heap.size W1 _ := set3_below hb2 (g := wb1.heap.size) (hb1.size) (.bool lf) (.slice A es.length c) (.slice Q2 kz.length m2)
    have hs3 := Nat.le_of_eq (set3_size wa2 wb1.heap.size (.bool lf) (.slice A es.length c) (.slice Q2 kz.length m2)).symm
    unfold set3 at hk3 hb3 hs3
    clear f0 f1 f2 l0 n0 n1 n2
    generalize ((wa2.setCell ⟨wb1.heap.size, 0, none⟩ (.bool lf)).setCell ⟨wb1.heap.size, 1, none⟩ (.slice A es.length c)).setCell ⟨wb1.heap.size, 2, none⟩ (.slice Q2 kz.length m2) = wb3 at hk3 hb3 hs3 ⊢
    refine hK.out _ _ (fun _ => hb3) ?_
    clear hK K'
    try simp only [Act.put, List.setIfInBounds_toArray, List.set_cons_zero, List.set_cons_succ]
    refine mix.D_op (k := 17) rfl rfl (by kernel_rfl) (fun K' hK => ?_)
    simp only [List.getElem_toArray, List.getElem_cons_zero, List.getElem_cons_succ]
    go_wp2_with fail
    refine hK.out _ _ (fun h => by simp at h) ?_
    clear hK K'
    refine mix.D_done (by kernel_rfl) ?_ _
    try simp only [Act.put, List.getElem_toArray, List.getElem_cons_zero, List.getElem_cons_succ, List.setIfInBounds_toArray, List.set_cons_zero, List.set_cons_succ]
    have z0 := hk3.cell 0
    simp at z0
    have d9 : (lf != b) = true := by cases lf <;> cases b <;> simp_all
    have d8 : (lf == b) = false := by cases lf <;> cases b <;> simp_all
    have bZ := bW.trans ((I9.trans (hb3.mono I9.size)).mono bW.size)
    go_wp2_with fail
    refine bodyPost_ret (v := .int .i64 0) (by simp [results, Try.results87, go_sem]) rfl ⟨rfl, bZ⟩
  · simp only [List.getElem_toArray, List.getElem_cons_zero, List.getElem_cons_succ]
    go_wp2_with fail
    have hs5 : Below W1d.heap.size W1d (W1d.alloc (.cells #[.bool false, .slice none 0 0, .slice none 0 0] 60)) := (Below.refl _ _).alloc (Nat.le_refl _) _
    have G5 := Blk.new W1d 60 #[.bool false, .slice none 0 0, .slice none 0 0]
    have hsz5 : W1d.heap.size < (W1d.alloc (.cells #[.bool false, .slice none 0 0, .slice none 0 0] 60)).heap.size := by simp
    have hg5 := vers.lay (rfl : W1d.heap.size = W1d.heap.size)
    generalize W1d.alloc (.cells #[.bool false, .slice none 0 0, .slice none 0 0] 60) = wa5 at hs5 G5 hsz5 ⊢
    have hb5 : Below W1.heap.size W1 wa5 := hS0.trans (hs5.mono hS0.size)
    refine hK.out _ _ (fun _ => hb5) ?_
    clear hK K'
    try simp only [Act.put, List.setIfInBounds_toArray, List.set_cons_zero, List.set_cons_succ]
    refine mix.D_op (k := 11) rfl rfl (by kernel_rfl) (fun K' hK => ?_)
    simp only [List.getElem_toArray, List.getElem_cons_zero, List.getElem_cons_succ]
    go_wp2_with fail
    refine (HP.out _ (bW.trans ((I9.trans (hb5.mono I9.size)).mono bW.size))).mono ?_
    rintro e wb6 ⟨hs6, ⟨lf, es, kz, A, c, Q2, m2⟩, rfl, hyp, O6⟩
    have hlf : lf ≠ b := fun h => hb1 ((congrArg (·.1) hyp.symm).trans h)
    clear O6
    have G6 := G5.below hs6 G5.lt
    have hb6 : Below W1.heap.size W1 wb6 := hb5.trans (hs6.mono hb5.size)
    refine hK.out _ _ (fun _ => hb6) ?_
    clear hK K'
    try simp only [Act.put, List.setIfInBounds_toArray, List.set_cons_zero, List.set_cons_succ]
    refine mix.D_take (i := 12) (v := ?_) rfl (by kernel_rfl) (by kernel_rfl) (fun _ _ _ h => h) (Or.inl ⟨by rfl, ?_⟩) hb6 ?_
    rotate_left
    · intro w' hSw
      have y0 := (hSw.cell (p := ⟨w.heap.size, 0, none⟩) lC1).trans rc
      have y1 := (hSw.cell (p := ⟨wb, o + 2, none⟩) lW1).trans b2
      have y2 := (hSw.cell (p := ⟨bk, off + (j) * 5 + 1, none⟩) lK1).trans r1
      have y3 := (hSw.cell (p := ⟨bk, off + (j) * 5 + 2, none⟩) lK1).trans r2
      have y4 := (hSw.cell (p := ⟨bk, off + (j) * 5 + 3, none⟩) lK1).trans r3
      have y5 := (hSw.cell (p := ⟨bk, off + (j) * 5 + 4, none⟩) lK1).trans r4
      try simp only [List.getElem_toArray, List.getElem_cons_zero, List.getElem_cons_succ]
      go_simp
      exact rfl
    try simp only [Act.put, List.setIfInBounds_toArray, List.set_cons_zero, List.set_cons_succ, List.getElem_toArray, List.getElem_cons_zero, List.getElem_cons_succ]
    refine mix.D_take (i := 13) (v := ?_) rfl (by kernel_rfl) (by kernel_rfl) (fun _ _ _ h => h) (Or.inl ⟨by rfl, ?_⟩) hb6 ?_
    rotate_left
    · intro w' hSw
      have y0 := (hSw.cell (p := ⟨w.heap.size, 0, none⟩) lC1).trans rc
      have y1 := (hSw.cell (p := ⟨wb, o + 2, none⟩) lW1).trans b2
      have y2 := (hSw.cell (p := ⟨bk, off + (j) * 5 + 1, none⟩) lK1).trans r1
      have y3 := (hSw.cell (p := ⟨bk, off + (j) * 5 + 2, none⟩) lK1).trans r2
      have y4 := (hSw.cell (p := ⟨bk, off + (j) * 5 + 3, none⟩) lK1).trans r3
      have y5 := (hSw.cell (p := ⟨bk, off + (j) * 5 + 4, none⟩) lK1).trans r4
      try simp only [List.getElem_toArray, List.getElem_cons_zero, List.getElem_cons_succ]
      go_simp
      exact rfl
    try simp only [Act.put, List.setIfInBounds_toArray, List.set_cons_zero, List.set_cons_succ, List.getElem_toArray, List.getElem_cons_zero, List.getElem_cons_succ]
    refine mix.D_take (i := 14) (v := ?_) rfl (by kernel_rfl) (by kernel_rfl) (fun _ _ _ h => h) (Or.inl ⟨by rfl, ?_⟩) hb6 ?_
    rotate_left
    · intro w' hSw
      have y0 := (hSw.cell (p := ⟨w.heap.size, 0, none⟩) lC1).trans rc
      have y1 := (hSw.cell (p := ⟨wb, o + 2, none⟩) lW1).trans b2
      have y2 := (hSw.cell (p := ⟨bk, off + (j) * 5 + 1, none⟩) lK1).trans r1
      have y3 := (hSw.cell (p := ⟨bk, off + (j) * 5 + 2, none⟩) lK1).trans r2
      have y4 := (hSw.cell (p := ⟨bk, off + (j) * 5 + 3, none⟩) lK1).trans r3
      have y5 := (hSw.cell (p := ⟨bk, off + (j) * 5 + 4, none⟩) lK1).trans r4
      try simp only [List.getElem_toArray, List.getElem_cons_zero, List.getElem_cons_succ]
      go_simp
      exact rfl
    try simp only [Act.put, List.setIfInBounds_toArray, List.set_cons_zero, List.set_cons_succ, List.getElem_toArray, List.getElem_cons_zero, List.getElem_cons_succ]
    refine mix.D_op (k := 16) rfl rfl (by kernel_rfl) (fun K' hK => ?_)
    simp only [List.getElem_toArray, List.getElem_cons_zero, List.getElem_cons_succ]
    have f0 := G6.frozen 0
    have f1 := G6.frozen 1
    have f2 := G6.frozen 2
    have l0 := G6.lt
    have n0 := G6.cell 0
    have n1 := G6.cell 1
    have n2 := G6.cell 2
    simp at n0 n1 n2
    go_wp2_with fail
    have hk7 := set3_blk G6 (.bool lf) (.slice A es.length c) (.slice Q2 kz.length m2)
    have hb7 : Below W1.heap.size W1 _ := set3_below hb6 (g := W1d.heap.size) (hS0.size) (.bool lf) (.slice A es.length c) (.slice Q2 kz.length m2)
    have hs7 := Nat.le_of_eq (set3_size wb6 W1d.heap.size (.bool lf) (.slice A es.length c) (.slice Q2 kz.length m2)).symm
    unfold set3 at hk7 hb7 hs7
    clear f0 f1 f2 l0 n0 n1 n2
    generalize ((wb6.setCell ⟨W1d.heap.size, 0, none⟩ (.bool lf)).setCell ⟨W1d.heap.size, 1, none⟩ (.slice A es.length c)).setCell ⟨W1d.heap.size, 2, none⟩ (.slice Q2 kz.length m2) = wb7 at hk7 hb7 hs7 ⊢
    refine hK.out _ _ (fun _ => hb7) ?_
    clear hK K'
    try simp only [Act.put, List.setIfInBounds_toArray, List.set_cons_zero, List.set_cons_succ]
    refine mix.D_op (k := 17) rfl rfl (by kernel_rfl) (fun K' hK => ?_)
    simp only [List.getElem_toArray, List.getElem_cons_zero, List.getElem_cons_succ]
    go_wp2_with fail
    refine hK.out _ _ (fun h => by simp at h) ?_
    clear hK K'
    refine mix.D_done (by kernel_rfl) ?_ _
    try simp only [Act.put, List.getElem_toArray, List.getElem_cons_zero, List.getElem_cons_succ, List.setIfInBounds_toArray, List.set_cons_zero, List.set_cons_succ]
    have z0 := hk7.cell 0
    simp at z0
    have d9 : (lf != b) = true := by cases lf <;> cases b <;> simp_all
    have d8 : (lf == b) = false := by cases lf <;> cases b <;> simp_all
    have bZ := bW.trans ((I9.trans (hb7.mono I9.size)).mono bW.size)
    go_wp2_with fail
    refine bodyPost_ret (v := .int .i64 0) (by simp [results, Try.results87, go_sem]) rfl ⟨rfl, bZ⟩

set_option maxRecDepth 100000 in
set_option maxHeartbeats 4000000 in
theorem beside_right_err (h : Nat) (S : Nat → Prop) (ns : List P3) (wb o i j d : Nat) (hj : j = i + 1) (ks : List K) (Q : Option Addr) (m : Nat) (k : Int) (b : Bool) (hk0 : k ≠ 0) (F : Nat → Prop) (u4 u5 : Value) (w : World) (hh : Hp w h S ns) (hK : KsF w F ks Q m) (hF : ∀ g, F g → g < w.heap.size) (hwb : wb < w.heap.size)
    (c2 : w.cell? ⟨wb, o + 2, none⟩ = some (.slice Q ks.length m)) (c3 : w.cell? ⟨wb, o + 3, none⟩ = some (.int .i64 (i : Int))) (c4 : w.cell? ⟨wb, o + 4, none⟩ = some u4) (c5 : w.cell? ⟨wb, o + 5, none⟩ = some u5) (f4 : w.frozen? ⟨wb, o + 4, none⟩ = false) (f5 : w.frozen? ⟨wb, o + 5, none⟩ = false)
    (hi : i < ks.length) (h2 : 1 < ks.length) (hc : i + 1 < ks.length) (hl : ks.length ≤ 1000) (hd : d < 1000) (hp : pageE ns (ks[j]?.getD zK).r d = .error k) :
    Calls Try.prog 87 #[clim h, .pointer (some ⟨wb, o, none⟩), .int .i64 (d : Int), .bool b] w (BnPost w k) := by
  have hk1 : j < ks.length := by omega
  obtain ⟨bk, off, rfl, hbk, _, q1, q2, q3, q4⟩ := hK.ks.at_ hk1
  have hfit := hK.2.2.2.2 _ (List.getElem_mem hk1)
  rw [List.getElem?_eq_getElem hk1, Option.getD_some] at hp
  generalize ks[j] = kk at q1 q2 q3 q4 hfit hp
  have bW := (Below.refl w.heap.size w).alloc (Nat.le_refl _) (.cells #[.iface 23 (.pointer (some ⟨h, 0, none⟩))] 111)
  have kC := Blk.new w 111 #[.iface 23 (.pointer (some ⟨h, 0, none⟩))]
  have lC : w.heap.size < (w.alloc (.cells #[.iface 23 (.pointer (some ⟨h, 0, none⟩))] 111)).heap.size := by simp
  have HP := vers.lay (show ∀ wx : World, Below w.heap.size w wx → Calls Try.prog 80 #[clim h, kk.r.val, .int .i64 (d : Int)] wx (PPost wx (.error k)) from fun wx hb => by
    have := page_any kk.r d h S ns wx (hh.below hb) hfit.2 (by omega)
    rwa [hp] at this)
  have HHi := vers.lay hi
  have HHl := vers.lay hl
  clear hh hK hp hfit
  have lW : wb < (w.alloc (.cells #[.iface 23 (.pointer (some ⟨h, 0, none⟩))] 111)).heap.size := by simp; omega
  have lK : bk < (w.alloc (.cells #[.iface 23 (.pointer (some ⟨h, 0, none⟩))] 111)).heap.size := by simp; omega
  have a2 := (bW.cell (p := ⟨wb, o + 2, none⟩) hwb).trans c2
  have a3 := (bW.cell (p := ⟨wb, o + 3, none⟩) hwb).trans c3
  have a4 := (bW.cell (p := ⟨wb, o + 4, none⟩) hwb).trans c4
  have a5 := (bW.cell (p := ⟨wb, o + 5, none⟩) hwb).trans c5
  have g4 := (bW.frozen (p := ⟨wb, o + 4, none⟩) hwb).trans f4
  have g5 := (bW.frozen (p := ⟨wb, o + 5, none⟩) hwb).trans f5
  have p1 := (bW.cell (p := ⟨bk, off + (j) * 5 + 1, none⟩) hbk).trans q1
  have p2 := (bW.cell (p := ⟨bk, off + (j) * 5 + 2, none⟩) hbk).trans q2
  have p3 := (bW.cell (p := ⟨bk, off + (j) * 5 + 3, none⟩) hbk).trans q3
  have p4 := (bW.cell (p := ⟨bk, off + (j) * 5 + 4, none⟩) hbk).trans q4
  have kc := kC.cell 0
  simp only [List.getElem?_toArray, List.getElem?_cons_zero, List.getElem?_cons_succ] at kc
  clear c2 c3 c4 c5 f4 f5 q1 q2 q3 q4
  go_enter Try.func87, Try.ntmps87
  go_wp2_with fail
  generalize hWW : w.alloc (.cells #[.iface 23 (.pointer (some ⟨h, 0, none⟩))] 111) = W at *
  obtain ⟨N, hN, hM⟩ := norms (fun wx => Below W.heap.size W wx) W (Below.refl _ _)
  have hne : Nonempty World := ⟨W⟩
  have v2 := fun n => ((hN n).cell (p := ⟨wb, o + 2, none⟩) lW).trans a2
  have v3 := fun n => ((hN n).cell (p := ⟨wb, o + 3, none⟩) lW).trans a3
  have e1 : IntKind.i64.wrap ((i : Int) + 1) = (i : Int) + 1 := IntWalk.i64_in _ (by omega)
  have e2 : IntKind.i64.wrap ((i : Int) - 1) = (i : Int) - 1 := IntWalk.i64_in _ (by omega)
  have d1 : decide ((i : Int) + 1 < (ks.length : Int)) = true := decide_eq_true (by omega)
  refine region_class N (by kernel_rfl) (by kernel_rfl) (hM _ (Below.refl _ W).drew) ?_
  repeat (go_big_quiet_step (fail))
  refine wpQuiet_nil ?_
  rintro _ ⟨nn, rfl⟩
  have I9 := hN nn
  generalize N nn = W1 at I9 ⊢
  have sW1 := I9.size
  have b2 := (I9.cell (p := ⟨wb, o + 2, none⟩) lW).trans a2
  have b3 := (I9.cell (p := ⟨wb, o + 3, none⟩) lW).trans a3
  have b4 := (I9.cell (p := ⟨wb, o + 4, none⟩) lW).trans a4
  have b5 := (I9.cell (p := ⟨wb, o + 5, none⟩) lW).trans a5
  have h4 := (I9.frozen (p := ⟨wb, o + 4, none⟩) lW).trans g4
  have h5 := (I9.frozen (p := ⟨wb, o + 5, none⟩) lW).trans g5
  have r1 := (I9.cell (p := ⟨bk, off + (j) * 5 + 1, none⟩) lK).trans p1
  have r2 := (I9.cell (p := ⟨bk, off + (j) * 5 + 2, none⟩) lK).trans p2
  have r3 := (I9.cell (p := ⟨bk, off + (j) * 5 + 3, none⟩) lK).trans p3
  have r4 := (I9.cell (p := ⟨bk, off + (j) * 5 + 4, none⟩) lK).trans p4
  have rc := (I9.cell (p := ⟨w.heap.size, 0, none⟩) lC).trans kc
  clear v2 v3 hN hM N hne a2 a3 a4 a5 g4 g5 p1 p2 p3 p4 kc d1 h2
  go_wp2_with fail
  have ej : (i : Int) + 1 = (j : Int) := by omega
  simp only [ej]
  clear ej hc hj
  have dI : (0 : Int) ≤ (j : Int) ∧ (j : Int) < (ks.length : Int) := by omega
  have lC1 := Nat.lt_of_lt_of_le lC sW1
  have lW1 := Nat.lt_of_lt_of_le lW sW1
  have lK1 := Nat.lt_of_lt_of_le lK sW1
  have hS0 : Below W1.heap.size W1 W1.drew := (Below.refl _ _).drew
  refine mix.region_D (fun w' => Below W1.heap.size W1 w') (fun j => j == 17) (by kernel_rfl) ?_
  generalize W1.drew = W1d at hS0 ⊢
  refine mix.D_take (i := 0) (v := ?_) rfl (by kernel_rfl) (by kernel_rfl) (fun _ _ _ h => h) (Or.inl ⟨by rfl, ?_⟩) hS0 ?_
  rotate_left
  · intro w' hSw
    have y0 := (hSw.cell (p := ⟨w.heap.size, 0, none⟩) lC1).trans rc
    have y1 := (hSw.cell (p := ⟨wb, o + 2, none⟩) lW1).trans b2
    have y2 := (hSw.cell (p := ⟨bk, off + (j) * 5 + 1, none⟩) lK1).trans r1
    have y3 := (hSw.cell (p := ⟨bk, off + (j) * 5 + 2, none⟩) lK1).trans r2
    have y4 := (hSw.cell (p := ⟨bk, off + (j) * 5 + 3, none⟩) lK1).trans r3
    have y5 := (hSw.cell (p := ⟨bk, off + (j) * 5 + 4, none⟩) lK1).trans r4
    try simp only [List.getElem_toArray, List.getElem_cons_zero, List.getElem_cons_succ]
    go_simp
    exact rfl
  try simp only [Act.put, List.setIfInBounds_toArray, List.set_cons_zero, List.set_cons_succ, List.getElem_toArray, List.getElem_cons_zero, List.getElem_cons_succ]
  refine mix.D_take (i := 1) (v := ?_) rfl (by kernel_rfl) (by kernel_rfl) (fun _ _ _ h => h) (Or.inl ⟨by rfl, ?_⟩) hS0 ?_
  rotate_left
  · intro w' hSw
    have y0 := (hSw.cell (p := ⟨w.heap.size, 0, none⟩) lC1).trans rc
    have y1 := (hSw.cell (p := ⟨wb, o + 2, none⟩) lW1).trans b2
    have y2 := (hSw.cell (p := ⟨bk, off + (j) * 5 + 1, none⟩) lK1).trans r1
    have y3 := (hSw.cell (p := ⟨bk, off + (j) * 5 + 2, none⟩) lK1).trans r2
    have y4 := (hSw.cell (p := ⟨bk, off + (j) * 5 + 3, none⟩) lK1).trans r3
    have y5 := (hSw.cell (p := ⟨bk, off + (j) * 5 + 4, none⟩) lK1).trans r4
    try simp only [List.getElem_toArray, List.getElem_cons_zero, List.getElem_cons_succ]
    go_simp
    exact rfl
  try simp only [Act.put, List.setIfInBounds_toArray, List.set_cons_zero, List.set_cons_succ, List.getElem_toArray, List.getElem_cons_zero, List.getElem_cons_succ]
  refine mix.D_take (i := 2) (v := ?_) rfl (by kernel_rfl) (by kernel_rfl) (fun _ _ _ h => h) (Or.inl ⟨by rfl, ?_⟩) hS0 ?_
  rotate_left
  · intro w' hSw
    have y0 := (hSw.cell (p := ⟨w.heap.size, 0, none⟩) lC1).trans rc
    have y1 := (hSw.cell (p := ⟨wb, o + 2, none⟩) lW1).trans b2
    have y2 := (hSw.cell (p := ⟨bk, off + (j) * 5 + 1, none⟩) lK1).trans r1
    have y3 := (hSw.cell (p := ⟨bk, off + (j) * 5 + 2, none⟩) lK1).trans r2
    have y4 := (hSw.cell (p := ⟨bk, off + (j) * 5 + 3, none⟩) lK1).trans r3
    have y5 := (hSw.cell (p := ⟨bk, off + (j) * 5 + 4, none⟩) lK1).trans r4
    try simp only [List.getElem_toArray, List.getElem_cons_zero, List.getElem_cons_succ]
    go_simp
    exact rfl
  try simp only [Act.put, List.setIfInBounds_toArray, List.set_cons_zero, List.set_cons_succ, List.getElem_toArray, List.getElem_cons_zero, List.getElem_cons_succ]
  refine mix.D_take (i := 3) (v := ?_) rfl (by kernel_rfl) (by kernel_rfl) (fun _ _ _ h => h) (Or.inl ⟨by rfl, ?_⟩) hS0 ?_
  rotate_left
  · intro w' hSw
    have y0 := (hSw.cell (p := ⟨w.heap.size, 0, none⟩) lC1).trans rc
    have y1 := (hSw.cell (p := ⟨wb, o + 2, none⟩) lW1).trans b2
    have y2 := (hSw.cell (p := ⟨bk, off + (j) * 5 + 1, none⟩) lK1).trans r1
    have y3 := (hSw.cell (p := ⟨bk, off + (j) * 5 + 2, none⟩) lK1).trans r2
    have y4 := (hSw.cell (p := ⟨bk, off + (j) * 5 + 3, none⟩) lK1).trans r3
    have y5 := (hSw.cell (p := ⟨bk, off + (j) * 5 + 4, none⟩) lK1).trans r4
    try simp only [List.getElem_toArray, List.getElem_cons_zero, List.getElem_cons_succ]
    go_simp
    exact rfl
  try simp only [Act.put, List.setIfInBounds_toArray, List.set_cons_zero, List.set_cons_succ, List.getElem_toArray, List.getElem_cons_zero, List.getElem_cons_succ]
  refine mix.D_take (i := 4) (v := ?_) rfl (by kernel_rfl) (by kernel_rfl) (fun _ _ _ h => h) (Or.inl ⟨by rfl, ?_⟩) hS0 ?_
  rotate_left
  · intro w' hSw
    have y0 := (hSw.cell (p := ⟨w.heap.size, 0, none⟩) lC1).trans rc
    have y1 := (hSw.cell (p := ⟨wb, o + 2, none⟩) lW1).trans b2
    have y2 := (hSw.cell (p := ⟨bk, off + (j) * 5 + 1, none⟩) lK1).trans r1
    have y3 := (hSw.cell (p := ⟨bk, off + (j) * 5 + 2, none⟩) lK1).trans r2
    have y4 := (hSw.cell (p := ⟨bk, off + (j) * 5 + 3, none⟩) lK1).trans r3
    have y5 := (hSw.cell (p := ⟨bk, off + (j) * 5 + 4, none⟩) lK1).trans r4
    try simp only [List.getElem_toArray, List.getElem_cons_zero, List.getElem_cons_succ]
    go_simp
    exact rfl
  try simp only [Act.put, List.setIfInBounds_toArray, List.set_cons_zero, List.set_cons_succ, List.getElem_toArray, List.getElem_cons_zero, List.getElem_cons_succ]
  refine mix.D_take (i := 5) (v := ?_) rfl (by kernel_rfl) (by kernel_rfl) (fun _ _ _ h => h) (Or.inl ⟨by rfl, ?_⟩) hS0 ?_
  rotate_left
  · intro w' hSw
    have y0 := (hSw.cell (p := ⟨w.heap.size, 0, none⟩) lC1).trans rc
    have y1 := (hSw.cell (p := ⟨wb, o + 2, none⟩) lW1).trans b2
    have y2 := (hSw.cell (p := ⟨bk, off + (j) * 5 + 1, none⟩) lK1).trans r1
    have y3 := (hSw.cell (p := ⟨bk, off + (j) * 5 + 2, none⟩) lK1).trans r2
    have y4 := (hSw.cell (p := ⟨bk, off + (j) * 5 + 3, none⟩) lK1).trans r3
    have y5 := (hSw.cell (p := ⟨bk, off + (j) * 5 + 4, none⟩) lK1).trans r4
    try simp only [List.getElem_toArray, List.getElem_cons_zero, List.getElem_cons_succ]
    go_simp
    exact rfl
  try simp only [Act.put, List.setIfInBounds_toArray, List.set_cons_zero, List.set_cons_succ, List.getElem_toArray, List.getElem_cons_zero, List.getElem_cons_succ]
  refine mix.D_take (i := 6) (v := ?_) rfl (by kernel_rfl) (by kernel_rfl) (fun _ _ _ h => h) (Or.inl ⟨by rfl, ?_⟩) hS0 ?_
  rotate_left
  · intro w' hSw
    have y0 := (hSw.cell (p := ⟨w.heap.size, 0, none⟩) lC1).trans rc
    have y1 := (hSw.cell (p := ⟨wb, o + 2, none⟩) lW1).trans b2
    have y2 := (hSw.cell (p := ⟨bk, off + (j) * 5 + 1, none⟩) lK1).trans r1
    have y3 := (hSw.cell (p := ⟨bk, off + (j) * 5 + 2, none⟩) lK1).trans r2
    have y4 := (hSw.cell (p := ⟨bk, off + (j) * 5 + 3, none⟩) lK1).trans r3
    have y5 := (hSw.cell (p := ⟨bk, off + (j) * 5 + 4, none⟩) lK1).trans r4
    try simp only [List.getElem_toArray, List.getElem_cons_zero, List.getElem_cons_succ]
    go_simp
    exact rfl
  try simp only [Act.put, List.setIfInBounds_toArray, List.set_cons_zero, List.set_cons_succ, List.getElem_toArray, List.getElem_cons_zero, List.getElem_cons_succ]
  refine mix.D_take (i := 7) (v := ?_) rfl (by kernel_rfl) (by kernel_rfl) (fun _ _ _ h => h) (Or.inl ⟨by rfl, ?_⟩) hS0 ?_
  rotate_left
  · intro w' hSw
    have y0 := (hSw.cell (p := ⟨w.heap.size, 0, none⟩) lC1).trans rc
    have y1 := (hSw.cell (p := ⟨wb, o + 2, none⟩) lW1).trans b2
    have y2 := (hSw.cell (p := ⟨bk, off + (j) * 5 + 1, none⟩) lK1).trans r1
    have y3 := (hSw.cell (p := ⟨bk, off + (j) * 5 + 2, none⟩) lK1).trans r2
    have y4 := (hSw.cell (p := ⟨bk, off + (j) * 5 + 3, none⟩) lK1).trans r3
    have y5 := (hSw.cell (p := ⟨bk, off + (j) * 5 + 4, none⟩) lK1).trans r4
    try simp only [List.getElem_toArray, List.getElem_cons_zero, List.getElem_cons_succ]
    go_simp
    exact rfl
  try simp only [Act.put, List.setIfInBounds_toArray, List.set_cons_zero, List.set_cons_succ, List.getElem_toArray, List.getElem_cons_zero, List.getElem_cons_succ]
  refine mix.D_take (i := 8) (v := ?_) rfl (by kernel_rfl) (by kernel_rfl) (fun _ _ _ h => h) (Or.inl ⟨by rfl, ?_⟩) hS0 ?_
  rotate_left
  · intro w' hSw
    have y0 := (hSw.cell (p := ⟨w.heap.size, 0, none⟩) lC1).trans rc
    have y1 := (hSw.cell (p := ⟨wb, o + 2, none⟩) lW1).trans b2
    have y2 := (hSw.cell (p := ⟨bk, off + (j) * 5 + 1, none⟩) lK1).trans r1
    have y3 := (hSw.cell (p := ⟨bk, off + (j) * 5 + 2, none⟩) lK1).trans r2
    have y4 := (hSw.cell (p := ⟨bk, off + (j) * 5 + 3, none⟩) lK1).trans r3
    have y5 := (hSw.cell (p := ⟨bk, off + (j) * 5 + 4, none⟩) lK1).trans r4
    try simp only [List.getElem_toArray, List.getElem_cons_zero, List.getElem_cons_succ]
    go_simp
    exact rfl
  try simp only [Act.put, List.setIfInBounds_toArray, List.set_cons_zero, List.set_cons_succ, List.getElem_toArray, List.getElem_cons_zero, List.getElem_cons_succ]
  refine mix.D_take (i := 9) (v := ?_) rfl (by kernel_rfl) (by kernel_rfl) (fun _ _ _ h => h) (Or.inl ⟨by rfl, ?_⟩) hS0 ?_
  rotate_left
  · intro w' hSw
    have y0 := (hSw.cell (p := ⟨w.heap.size, 0, none⟩) lC1).trans rc
    have y1 := (hSw.cell (p := ⟨wb, o + 2, none⟩) lW1).trans b2
    have y2 := (hSw.cell (p := ⟨bk, off + (j) * 5 + 1, none⟩) lK1).trans r1
    have y3 := (hSw.cell (p := ⟨bk, off + (j) * 5 + 2, none⟩) lK1).trans r2
    have y4 := (hSw.cell (p := ⟨bk, off + (j) * 5 + 3, none⟩) lK1).trans r3
    have y5 := (hSw.cell (p := ⟨bk, off + (j) * 5 + 4, none⟩) lK1).trans r4
    try simp only [List.getElem_toArray, List.getElem_cons_zero, List.getElem_cons_succ]
    go_simp
    exact rfl
  try simp only [Act.put, List.setIfInBounds_toArray, List.set_cons_zero, List.set_cons_succ, List.getElem_toArray, List.getElem_cons_zero, List.getElem_cons_succ]
  refine mix.D_take (i := 10) (v := ?_) rfl (by kernel_rfl) (by kernel_rfl) (fun _ _ _ h => h) (Or.inl ⟨by rfl, ?_⟩) hS0 ?_
  rotate_left
  · intro w' hSw
    have y0 := (hSw.cell (p := ⟨w.heap.size, 0, none⟩) lC1).trans rc
    have y1 := (hSw.cell (p := ⟨wb, o + 2, none⟩) lW1).trans b2
    have y2 := (hSw.cell (p := ⟨bk, off + (j) * 5 + 1, none⟩) lK1).trans r1
    have y3 := (hSw.cell (p := ⟨bk, off + (j) * 5 + 2, none⟩) lK1).trans r2
    have y4 := (hSw.cell (p := ⟨bk, off + (j) * 5 + 3, none⟩) lK1).trans r3
    have y5 := (hSw.cell (p := ⟨bk, off + (j) * 5 + 4, none⟩) lK1).trans r4
    try simp only [List.getElem_toArray, List.getElem_cons_zero, List.getElem_cons_succ]
    go_simp
    exact rfl
  try simp only [Act.put, List.setIfInBounds_toArray, List.set_cons_zero, List.set_cons_succ, List.getElem_toArray, List.getElem_cons_zero, List.getElem_cons_succ]
  refine mix.D_two (k := 11) (j := 15) rfl rfl rfl rfl (by kernel_rfl) (fun K' hK => ?_) (fun K' hK => ?_)
  · simp only [List.getElem_toArray, List.getElem_cons_zero, List.getElem_cons_succ]
    go_wp2_with fail
    refine (HP.out _ (bW.trans ((I9.trans (hS0.mono I9.size)).mono bW.size))).mono ?_
    rintro e wb1 ⟨hs1, he1⟩
    obtain ⟨es, kz, A, c, Q2, m2, he1⟩ : ∃ es kz A c Q2 m2, e = .returned (.tuple #[(⟨false, es, kz, A, c, Q2, m2⟩ : N).val, .int .i64 k]) := ⟨[], [], none, 0, none, 0, he1⟩
    subst he1
    have hb1 : Below W1.heap.size W1 wb1 := hS0.trans (hs1.mono hS0.size)
    refine hK.out _ _ (fun _ => hb1) ?_
    clear hK K'
    try simp only [Act.put, List.setIfInBounds_toArray, List.set_cons_zero, List.set_cons_succ]
    refine mix.D_take (i := 12) (v := ?_) rfl (by kernel_rfl) (by kernel_rfl) (fun _ _ _ h => h) (Or.inl ⟨by rfl, ?_⟩) hb1 ?_
    rotate_left
    · intro w' hSw
      have y0 := (hSw.cell (p := ⟨w.heap.size, 0, none⟩) lC1).trans rc
      have y1 := (hSw.cell (p := ⟨wb, o + 2, none⟩) lW1).trans b2
      have y2 := (hSw.cell (p := ⟨bk, off + (j) * 5 + 1, none⟩) lK1).trans r1
      have y3 := (hSw.cell (p := ⟨bk, off + (j) * 5 + 2, none⟩) lK1).trans r2
      have y4 := (hSw.cell (p := ⟨bk, off + (j) * 5 + 3, none⟩) lK1).trans r3
      have y5 := (hSw.cell (p := ⟨bk, off + (j) * 5 + 4, none⟩) lK1).trans r4
      try simp only [List.getElem_toArray, List.getElem_cons_zero, List.getElem_cons_succ]
      go_simp
      exact rfl
    try simp only [Act.put, List.setIfInBounds_toArray, List.set_cons_zero, List.set_cons_succ, List.getElem_toArray, List.getElem_cons_zero, List.getElem_cons_succ]
    refine mix.D_take (i := 13) (v := ?_) rfl (by kernel_rfl) (by kernel_rfl) (fun _ _ _ h => h) (Or.inl ⟨by rfl, ?_⟩) hb1 ?_
    rotate_left
    · intro w' hSw
      have y0 := (hSw.cell (p := ⟨w.heap.size, 0, none⟩) lC1).trans rc
      have y1 := (hSw.cell (p := ⟨wb, o + 2, none⟩) lW1).trans b2
      have y2 := (hSw.cell (p := ⟨bk, off + (j) * 5 + 1, none⟩) lK1).trans r1
      have y3 := (hSw.cell (p := ⟨bk, off + (j) * 5 + 2, none⟩) lK1).trans r2
      have y4 := (hSw.cell (p := ⟨bk, off + (j) * 5 + 3, none⟩) lK1).trans r3
      have y5 := (hSw.cell (p := ⟨bk, off + (j) * 5 + 4, none⟩) lK1).trans r4
      try simp only [List.getElem_toArray, List.getElem_cons_zero, List.getElem_cons_succ]
      go_simp
      exact rfl
    try simp only [Act.put, List.setIfInBounds_toArray, List.set_cons_zero, List.set_cons_succ, List.getElem_toArray, List.getElem_cons_zero, List.getElem_cons_succ]
    refine mix.D_take (i := 14) (v := ?_) rfl (by kernel_rfl) (by kernel_rfl) (fun _ _ _ h => h) (Or.inl ⟨by rfl, ?_⟩) hb1 ?_
    rotate_left
    · intro w' hSw
      have y0 := (hSw.cell (p := ⟨w.heap.size, 0, none⟩) lC1).trans rc
      have y1 := (hSw.cell (p := ⟨wb, o + 2, none⟩) lW1).trans b2
      have y2 := (hSw.cell (p := ⟨bk, off + (j) * 5 + 1, none⟩) lK1).trans r1
      have y3 := (hSw.cell (p := ⟨bk, off + (j) * 5 + 2, none⟩) lK1).trans r2
      have y4 := (hSw.cell (p := ⟨bk, off + (j) * 5 + 3, none⟩) lK1).trans r3
      have y5 := (hSw.cell (p := ⟨bk, off + (j) * 5 + 4, none⟩) lK1).trans r4
      try simp only [List.getElem_toArray, List.getElem_cons_zero, List.getElem_cons_succ]
      go_simp
      exact rfl
    try simp only [Act.put, List.setIfInBounds_toArray, List.set_cons_zero, List.set_cons_succ, List.getElem_toArray, List.getElem_cons_zero, List.getElem_cons_succ]
    refine mix.D_op (k := 15) rfl rfl (by kernel_rfl) (fun K' hK => ?_)
    simp only [List.getElem_toArray, List.getElem_cons_zero, List.getElem_cons_succ]
    go_wp2_with fail
    have hs2 : Below wb1.heap.size wb1 (wb1.alloc (.cells #[.bool false, .slice none 0 0, .slice none 0 0] 60)) := (Below.refl _ _).alloc (Nat.le_refl _) _
    have G2 := Blk.new wb1 60 #[.bool false, .slice none 0 0, .slice none 0 0]
    have hsz2 : wb1.heap.size < (wb1.alloc (.cells #[.bool false, .slice none 0 0, .slice none 0 0] 60)).heap.size := by simp
    have hg2 := vers.lay (rfl : wb1.heap.size = wb1.heap.size)
    generalize wb1.alloc (.cells #[.bool false, .slice none 0 0, .slice none 0 0] 60) = wa2 at hs2 G2 hsz2 ⊢
    have hb2 : Below W1.heap.size W1 wa2 := hb1.trans (hs2.mono hb1.size)
    refine hK.out _ _ (fun _ => hb2) ?_
    clear hK K'
    try simp only [Act.put, List.setIfInBounds_toArray, List.set_cons_zero, List.set_cons_succ]
    refine mix.D_op (k := 16) rfl rfl (by kernel_rfl) (fun K' hK => ?_)
    simp only [List.getElem_toArray, List.getElem_cons_zero, List.getElem_cons_succ]
    have f0 := G2.frozen 0
    have f1 := G2.frozen 1
    have f2 := G2.frozen 2
    have l0 := G2.lt
    have n0 := G2.cell 0
    have n1 := G2.cell 1
    have n2 := G2.cell 2
    simp at n0 n1 n2
    go_wp2_with fail
    have hk3 := set3_blk G2 (.bool false) (.slice A es.length c) (.slice Q2 kz.length m2)
    have hb3 : Below W1.heap.size W1 _ := set3_below hb2 (g := wb1.heap.size) (hb1.size) (.bool false) (.slice A es.length c) (.slice Q2 kz.length m2)
    have hs3 := Nat.le_of_eq (set3_size wa2 wb1.heap.size (.bool false) (.slice A es.length c) (.slice Q2 kz.length m2)).symm
    unfold set3 at hk3 hb3 hs3
    clear f0 f1 f2 l0 n0 n1 n2
    generalize ((wa2.setCell ⟨wb1.heap.size, 0, none⟩ (.bool false)).setCell ⟨wb1.heap.size, 1, none⟩ (.slice A es.length c)).setCell ⟨wb1.heap.size, 2, none⟩ (.slice Q2 kz.length m2) = wb3 at hk3 hb3 hs3 ⊢
    refine hK.out _ _ (fun _ => hb3) ?_
    clear hK K'
    try simp only [Act.put, List.setIfInBounds_toArray, List.set_cons_zero, List.set_cons_succ]
    refine mix.D_op (k := 17) rfl rfl (by kernel_rfl) (fun K' hK => ?_)
    simp only [List.getElem_toArray, List.getElem_cons_zero, List.getElem_cons_succ]
    go_wp2_with fail
    refine hK.out _ _ (fun h => by simp at h) ?_
    clear hK K'
    refine mix.D_done (by kernel_rfl) ?_ _
    try simp only [Act.put, List.getElem_toArray, List.getElem_cons_zero, List.getElem_cons_succ, List.setIfInBounds_toArray, List.set_cons_zero, List.set_cons_succ]
    have z0 := hk3.cell 0
    simp at z0
    have d9 : (k != 0) = true := by simp [bne, beq_eq_false_iff_ne.2 hk0]
    skip
    have bZ := bW.trans ((I9.trans (hb3.mono I9.size)).mono bW.size)
    go_wp2_with fail
    refine bodyPost_ret (v := .int .i64 k) (by simp [results, Try.results87, go_sem]) rfl ⟨rfl, bZ⟩
  · simp only [List.getElem_toArray, List.getElem_cons_zero, List.getElem_cons_succ]
    go_wp2_with fail
    have hs5 : Below W1d.heap.size W1d (W1d.alloc (.cells #[.bool false, .slice none 0 0, .slice none 0 0] 60)) := (Below.refl _ _).alloc (Nat.le_refl _) _
    have G5 := Blk.new W1d 60 #[.bool false, .slice none 0 0, .slice none 0 0]
    have hsz5 : W1d.heap.size < (W1d.alloc (.cells #[.bool false, .slice none 0 0, .slice none 0 0] 60)).heap.size := by simp
    have hg5 := vers.lay (rfl : W1d.heap.size = W1d.heap.size)
    generalize W1d.alloc (.cells #[.bool false, .slice none 0 0, .slice none 0 0] 60) = wa5 at hs5 G5 hsz5 ⊢
    have hb5 : Below W1.heap.size W1 wa5 := hS0.trans (hs5.mono hS0.size)
    refine hK.out _ _ (fun _ => hb5) ?_
    clear hK K'
    try simp only [Act.put, List.setIfInBounds_toArray, List.set_cons_zero, List.set_cons_succ]
    refine mix.D_op (k := 11) rfl rfl (by kernel_rfl) (fun K' hK => ?_)
    simp only [List.getElem_toArray, List.getElem_cons_zero, List.getElem_cons_succ]
    go_wp2_with fail
    refine (HP.out _ (bW.trans ((I9.trans (hb5.mono I9.size)).mono bW.size))).mono ?_
    rintro e wb6 ⟨hs6, he6⟩
    obtain ⟨es, kz, A, c, Q2, m2, he6⟩ : ∃ es kz A c Q2 m2, e = .returned (.tuple #[(⟨false, es, kz, A, c, Q2, m2⟩ : N).val, .int .i64 k]) := ⟨[], [], none, 0, none, 0, he6⟩
    subst he6
    have G6 := G5.below hs6 G5.lt
    have hb6 : Below W1.heap.size W1 wb6 := hb5.trans (hs6.mono hb5.size)
    refine hK.out _ _ (fun _ => hb6) ?_
    clear hK K'
    try simp only [Act.put, List.setIfInBounds_toArray, List.set_cons_zero, List.set_cons_succ]
    refine mix.D_take (i := 12) (v := ?_) rfl (by kernel_rfl) (by kernel_rfl) (fun _ _ _ h => h) (Or.inl ⟨by rfl, ?_⟩) hb6 ?_
    rotate_left
    · intro w' hSw
      have y0 := (hSw.cell (p := ⟨w.heap.size, 0, none⟩) lC1).trans rc
      have y1 := (hSw.cell (p := ⟨wb, o + 2, none⟩) lW1).trans b2
      have y2 := (hSw.cell (p := ⟨bk, off + (j) * 5 + 1, none⟩) lK1).trans r1
      have y3 := (hSw.cell (p := ⟨bk, off + (j) * 5 + 2, none⟩) lK1).trans r2
      have y4 := (hSw.cell (p := ⟨bk, off + (j) * 5 + 3, none⟩) lK1).trans r3
      have y5 := (hSw.cell (p := ⟨bk, off + (j) * 5 + 4, none⟩) lK1).trans r4
      try simp only [List.getElem_toArray, List.getElem_cons_zero, List.getElem_cons_succ]
      go_simp
      exact rfl
    try simp only [Act.put, List.setIfInBounds_toArray, List.set_cons_zero, List.set_cons_succ, List.getElem_toArray, List.getElem_cons_zero, List.getElem_cons_succ]
    refine mix.D_take (i := 13) (v := ?_) rfl (by kernel_rfl) (by kernel_rfl) (fun _ _ _ h => h) (Or.inl ⟨by rfl, ?_⟩) hb6 ?_
    rotate_left
    · intro w' hSw
      have y0 := (hSw.cell (p := ⟨w.heap.size, 0, none⟩) lC1).trans rc
      have y1 := (hSw.cell (p := ⟨wb, o + 2, none⟩) lW1).trans b2
      have y2 := (hSw.cell (p := ⟨bk, off + (j) * 5 + 1, none⟩) lK1).trans r1
      have y3 := (hSw.cell (p := ⟨bk, off + (j) * 5 + 2, none⟩) lK1).trans r2
      have y4 := (hSw.cell (p := ⟨bk, off + (j) * 5 + 3, none⟩) lK1).trans r3
      have y5 := (hSw.cell (p := ⟨bk, off + (j) * 5 + 4, none⟩) lK1).trans r4
      try simp only [List.getElem_toArray, List.getElem_cons_zero, List.getElem_cons_succ]
      go_simp
      exact rfl
    try simp only [Act.put, List.setIfInBounds_toArray, List.set_cons_zero, List.set_cons_succ, List.getElem_toArray, List.getElem_cons_zero, List.getElem_cons_succ]
    refine mix.D_take (i := 14) (v := ?_) rfl (by kernel_rfl) (by kernel_rfl) (fun _ _ _ h => h) (Or.inl ⟨by rfl, ?_⟩) hb6 ?_
    rotate_left
    · intro w' hSw
      have y0 := (hSw.cell (p := ⟨w.heap.size, 0, none⟩) lC1).trans rc
      have y1 := (hSw.cell (p := ⟨wb, o + 2, none⟩) lW1).trans b2
      have y2 := (hSw.cell (p := ⟨bk, off + (j) * 5 + 1, none⟩) lK1).trans r1
      have y3 := (hSw.cell (p := ⟨bk, off + (j) * 5 + 2, none⟩) lK1).trans r2
      have y4 := (hSw.cell (p := ⟨bk, off + (j) * 5 + 3, none⟩) lK1).trans r3
      have y5 := (hSw.cell (p := ⟨bk, off + (j) * 5 + 4, none⟩) lK1).trans r4
      try simp only [List.getElem_toArray, List.getElem_cons_zero, List.getElem_cons_succ]
      go_simp
      exact rfl
    try simp only [Act.put, List.setIfInBounds_toArray, List.set_cons_zero, List.set_cons_succ, List.getElem_toArray, List.getElem_cons_zero, List.getElem_cons_succ]
    refine mix.D_op (k := 16) rfl rfl (by kernel_rfl) (fun K' hK => ?_)
    simp only [List.getElem_toArray, List.getElem_cons_zero, List.getElem_cons_succ]
    have f0 := G6.frozen 0
    have f1 := G6.frozen 1
    have f2 := G6.frozen 2
    have l0 := G6.lt
    have n0 := G6.cell 0
    have n1 := G6.cell 1
    have n2 := G6.cell 2
    simp at n0 n1 n2
    go_wp2_with fail
    have hk7 := set3_blk G6 (.bool false) (.slice A es.length c) (.slice Q2 kz.length m2)
    have hb7 : Below W1.heap.size W1 _ := set3_below hb6 (g := W1d.heap.size) (hS0.size) (.bool false) (.slice A es.length c) (.slice Q2 kz.length m2)
    have hs7 := Nat.le_of_eq (set3_size wb6 W1d.heap.size (.bool false) (.slice A es.length c) (.slice Q2 kz.length m2)).symm
    unfold set3 at hk7 hb7 hs7
    clear f0 f1 f2 l0 n0 n1 n2
    generalize ((wb6.setCell ⟨W1d.heap.size, 0, none⟩ (.bool false)).setCell ⟨W1d.heap.size, 1, none⟩ (.slice A es.length c)).setCell ⟨W1d.heap.size, 2, none⟩ (.slice Q2 kz.length m2) = wb7 at hk7 hb7 hs7 ⊢
    refine hK.out _ _ (fun _ => hb7) ?_
    clear hK K'
    try simp only [Act.put, List.setIfInBounds_toArray, List.set_cons_zero, List.set_cons_succ]
    refine mix.D_op (k := 17) rfl rfl (by kernel_rfl) (fun K' hK => ?_)
    simp only [List.getElem_toArray, List.getElem_cons_zero, List.getElem_cons_succ]
    go_wp2_with fail
    refine hK.out _ _ (fun h => by simp at h) ?_
    clear hK K'
    refine mix.D_done (by kernel_rfl) ?_ _
    try simp only [Act.put, List.getElem_toArray, List.getElem_cons_zero, List.getElem_cons_succ, List.setIfInBounds_toArray, List.set_cons_zero, List.set_cons_succ]
    have z0 := hk7.cell 0
    simp at z0
    have d9 : (k != 0) = true := by simp [bne, beq_eq_false_iff_ne.2 hk0]
    skip
    have bZ := bW.trans ((I9.trans (hb7.mono I9.size)).mono bW.size)
    go_wp2_with fail
    refine bodyPost_ret (v := .int .i64 k) (by simp [results, Try.results87, go_sem]) rfl ⟨rfl, bZ⟩

set_option maxRecDepth 100000 in
set_option maxHeartbeats 4000000 in
theorem beside_left_mis (h : Nat) (S : Nat → Prop) (ns : List P3) (wb o i j d : Nat) (hj : j + 1 = i) (ks : List K) (Q : Option Addr) (m : Nat) (n : P3) (b : Bool) (hb1 : n.1 ≠ b) (F : Nat → Prop) (u4 u5 : Value) (w : World) (hh : Hp w h S ns) (hK : KsF w F ks Q m) (hF : ∀ g, F g → g < w.heap.size) (hwb : wb < w.heap.size)
    (c2 : w.cell? ⟨wb, o + 2, none⟩ = some (.slice Q ks.length m)) (c3 : w.cell? ⟨wb, o + 3, none⟩ = some (.int .i64 (i : Int))) (c4 : w.cell? ⟨wb, o + 4, none⟩ = some u4) (c5 : w.cell? ⟨wb, o + 5, none⟩ = some u5) (f4 : w.frozen? ⟨wb, o + 4, none⟩ = false) (f5 : w.frozen? ⟨wb, o + 5, none⟩ = false)
    (hi : i < ks.length) (h2 : 1 < ks.length) (hc : ¬ i + 1 < ks.length) (hl : ks.length ≤ 1000) (hd : d < 1000) (hp : pageE ns (ks[j]?.getD zK).r d = .ok n) :
    Calls Try.prog 87 #[clim h, .pointer (some ⟨wb, o, none⟩), .int .i64 (d : Int), .bool b] w (BnPost w 0) := by
  have hk1 : j < ks.length := by omega
  obtain ⟨bk, off, rfl, hbk, _, q1, q2, q3, q4⟩ := hK.ks.at_ hk1
  have hfit := hK.2.2.2.2 _ (List.getElem_mem hk1)
  rw [List.getElem?_eq_getElem hk1, Option.getD_some] at hp
  generalize ks[j] = kk at q1 q2 q3 q4 hfit hp
  have bW := (Below.refl w.heap.size w).alloc (Nat.le_refl _) (.cells #[.iface 23 (.pointer (some ⟨h, 0, none⟩))] 111)
  have kC := Blk.new w 111 #[.iface 23 (.pointer (some ⟨h, 0, none⟩))]
  have lC : w.heap.size < (w.alloc (.cells #[.iface 23 (.pointer (some ⟨h, 0, none⟩))] 111)).heap.size := by simp
  have HP := vers.lay (show ∀ wx : World, Below w.heap.size w wx → Calls Try.prog 80 #[clim h, kk.r.val, .int .i64 (d : Int)] wx (PPost wx (.ok n)) from fun wx hb => by
    have := page_any kk.r d h S ns wx (hh.below hb) hfit.2 (by omega)
    rwa [hp] at this)
  have HHi := vers.lay hi
  have HHl := vers.lay hl
  clear hh hK hp hfit
  have lW : wb < (w.alloc (.cells #[.iface 23 (.pointer (some ⟨h, 0, none⟩))] 111)).heap.size := by simp; omega
  have lK : bk < (w.alloc (.cells #[.iface 23 (.pointer (some ⟨h, 0, none⟩))] 111)).heap.size := by simp; omega
  have a2 := (bW.cell (p := ⟨wb, o + 2, none⟩) hwb).trans c2
  have a3 := (bW.cell (p := ⟨wb, o + 3, none⟩) hwb).trans c3
  have a4 := (bW.cell (p := ⟨wb, o + 4, none⟩) hwb).trans c4
  have a5 := (bW.cell (p := ⟨wb, o + 5, none⟩) hwb).trans c5
  have g4 := (bW.frozen (p := ⟨wb, o + 4, none⟩) hwb).trans f4
  have g5 := (bW.frozen (p := ⟨wb, o + 5, none⟩) hwb).trans f5
  have p1 := (bW.cell (p := ⟨bk, off + (j) * 5 + 1, none⟩) hbk).trans q1
  have p2 := (bW.cell (p := ⟨bk, off + (j) * 5 + 2, none⟩) hbk).trans q2
  have p3 := (bW.cell (p := ⟨bk, off + (j) * 5 + 3, none⟩) hbk).trans q3
  have p4 := (bW.cell (p := ⟨bk, off + (j) * 5 + 4, none⟩) hbk).trans q4
  have kc := kC.cell 0
  simp only [List.getElem?_toArray, List.getElem?_cons_zero, List.getElem?_cons_succ] at kc
  clear c2 c3 c4 c5 f4 f5 q1 q2 q3 q4
  go_enter Try.func87, Try.ntmps87
  go_wp2_with fail
  generalize hWW : w.alloc (.cells #[.iface 23 (.pointer (some ⟨h, 0, none⟩))] 111) = W at *
  obtain ⟨N, hN, hM⟩ := norms (fun wx => Below W.heap.size W wx) W (Below.refl _ _)
  have hne : Nonempty World := ⟨W⟩
  have v2 := fun n => ((hN n).cell (p := ⟨wb, o + 2, none⟩) lW).trans a2
  have v3 := fun n => ((hN n).cell (p := ⟨wb, o + 3, none⟩) lW).trans a3
  have e1 : IntKind.i64.wrap ((i : Int) + 1) = (i : Int) + 1 := IntWalk.i64_in _ (by omega)
  have e2 : IntKind.i64.wrap ((i : Int) - 1) = (i : Int) - 1 := IntWalk.i64_in _ (by omega)
  have d1 : decide ((i : Int) + 1 < (ks.length : Int)) = false := decide_eq_false (by omega)
  refine region_class N (by kernel_rfl) (by kernel_rfl) (hM _ (Below.refl _ W).drew) ?_
  repeat (go_big_quiet_step (fail))
  refine wpQuiet_nil ?_
  rintro _ ⟨nn, rfl⟩
  have I9 := hN nn
  generalize N nn = W1 at I9 ⊢
  have sW1 := I9.size
  have b2 := (I9.cell (p := ⟨wb, o + 2, none⟩) lW).trans a2
  have b3 := (I9.cell (p := ⟨wb, o + 3, none⟩) lW).trans a3
  have b4 := (I9.cell (p := ⟨wb, o + 4, none⟩) lW).trans a4
  have b5 := (I9.cell (p := ⟨wb, o + 5, none⟩) lW).trans a5
  have h4 := (I9.frozen (p := ⟨wb, o + 4, none⟩) lW).trans g4
  have h5 := (I9.frozen (p := ⟨wb, o + 5, none⟩) lW).trans g5
  have r1 := (I9.cell (p := ⟨bk, off + (j) * 5 + 1, none⟩) lK).trans p1
  have r2 := (I9.cell (p := ⟨bk, off + (j) * 5 + 2, none⟩) lK).trans p2
  have r3 := (I9.cell (p := ⟨bk, off + (j) * 5 + 3, none⟩) lK).trans p3
  have r4 := (I9.cell (p := ⟨bk, off + (j) * 5 + 4, none⟩) lK).trans p4
  have rc := (I9.cell (p := ⟨w.heap.size, 0, none⟩) lC).trans kc
  clear v2 v3 hN hM N hne a2 a3 a4 a5 g4 g5 p1 p2 p3 p4 kc d1 h2
  go_wp2_with fail
  have ej : (i : Int) - 1 = (j : Int) := by omega
  simp only [ej]
  clear ej hc hj
  have dI : (0 : Int) ≤ (j : Int) ∧ (j : Int) < (ks.length : Int) := by omega
  have lC1 := Nat.lt_of_lt_of_le lC sW1
  have lW1 := Nat.lt_of_lt_of_le lW sW1
  have lK1 := Nat.lt_of_lt_of_le lK sW1
  have hS0 : Below W1.heap.size W1 W1.drew := (Below.refl _ _).drew
  refine mix.region_D (fun w' => Below W1.heap.size W1 w') (fun j => j == 17) (by kernel_rfl) ?_
  generalize W1.drew = W1d at hS0 ⊢
  refine mix.D_take (i := 0) (v := ?_) rfl (by kernel_rfl) (by kernel_rfl) (fun _ _ _ h => h) (Or.inl ⟨by rfl, ?_⟩) hS0 ?_
  rotate_left
  · intro w' hSw
    have y0 := (hSw.cell (p := ⟨w.heap.size, 0, none⟩) lC1).trans rc
    have y1 := (hSw.cell (p := ⟨wb, o + 2, none⟩) lW1).trans b2
    have y2 := (hSw.cell (p := ⟨bk, off + (j) * 5 + 1, none⟩) lK1).trans r1
    have y3 := (hSw.cell (p := ⟨bk, off + (j) * 5 + 2, none⟩) lK1).trans r2
    have y4 := (hSw.cell (p := ⟨bk, off + (j) * 5 + 3, none⟩) lK1).trans r3
    have y5 := (hSw.cell (p := ⟨bk, off + (j) * 5 + 4, none⟩) lK1).trans r4
    try simp only [List.getElem_toArray, List.getElem_cons_zero, List.getElem_cons_succ]
    go_simp
    exact rfl
  try simp only [Act.put, List.setIfInBounds_toArray, List.set_cons_zero, List.set_cons_succ, List.getElem_toArray, List.getElem_cons_zero, List.getElem_cons_succ]
  refine mix.D_take (i := 1) (v := ?_) rfl (by kernel_rfl) (by kernel_rfl) (fun _ _ _ h => h) (Or.inl ⟨by rfl, ?_⟩) hS0 ?_
  rotate_left
  · intro w' hSw
    have y0 := (hSw.cell (p := ⟨w.heap.size, 0, none⟩) lC1).trans rc
    have y1 := (hSw.cell (p := ⟨wb, o + 2, none⟩) lW1).trans b2
    have y2 := (hSw.cell (p := ⟨bk, off + (j) * 5 + 1, none⟩) lK1).trans r1
    have y3 := (hSw.cell (p := ⟨bk, off + (j) * 5 + 2, none⟩) lK1).trans r2
    have y4 := (hSw.cell (p := ⟨bk, off + (j) * 5 + 3, none⟩) lK1).trans r3
    have y5 := (hSw.cell (p := ⟨bk, off + (j) * 5 + 4, none⟩) lK1).trans r4
    try simp only [List.getElem_toArray, List.getElem_cons_zero, List.getElem_cons_succ]
    go_simp
    exact rfl
  try simp only [Act.put, List.setIfInBounds_toArray, List.set_cons_zero, List.set_cons_succ, List.getElem_toArray, List.getElem_cons_zero, List.getElem_cons_succ]
  refine mix.D_take (i := 2) (v := ?_) rfl (by kernel_rfl) (by kernel_rfl) (fun _ _ _ h => h) (Or.inl ⟨by rfl, ?_⟩) hS0 ?_
  rotate_left
  · intro w' hSw
    have y0 := (hSw.cell (p := ⟨w.heap.size, 0, none⟩) lC1).trans rc
    have y1 := (hSw.cell (p := ⟨wb, o + 2, none⟩) lW1).trans b2
    have y2 := (hSw.cell (p := ⟨bk, off + (j) * 5 + 1, none⟩) lK1).trans r1
    have y3 := (hSw.cell (p := ⟨bk, off + (j) * 5 + 2, none⟩) lK1).trans r2
    have y4 := (hSw.cell (p := ⟨bk, off + (j) * 5 + 3, none⟩) lK1).trans r3
    have y5 := (hSw.cell (p := ⟨bk, off + (j) * 5 + 4, none⟩) lK1).trans r4
    try simp only [List.getElem_toArray, List.getElem_cons_zero, List.getElem_cons_succ]
    go_simp
    exact rfl
  try simp only [Act.put, List.setIfInBounds_toArray, List.set_cons_zero, List.set_cons_succ, List.getElem_toArray, List.getElem_cons_zero, List.getElem_cons_succ]
  refine mix.D_take (i := 3) (v := ?_) rfl (by kernel_rfl) (by kernel_rfl) (fun _ _ _ h => h) (Or.inl ⟨by rfl, ?_⟩) hS0 ?_
  rotate_left
  · intro w' hSw
    have y0 := (hSw.cell (p := ⟨w.heap.size, 0, none⟩) lC1).trans rc
    have y1 := (hSw.cell (p := ⟨wb, o + 2, none⟩) lW1).trans b2
    have y2 := (hSw.cell (p := ⟨bk, off + (j) * 5 + 1, none⟩) lK1).trans r1
    have y3 := (hSw.cell (p := ⟨bk, off + (j) * 5 + 2, none⟩) lK1).trans r2
    have y4 := (hSw.cell (p := ⟨bk, off + (j) * 5 + 3, none⟩) lK1).trans r3
    have y5 := (hSw.cell (p := ⟨bk, off + (j) * 5 + 4, none⟩) lK1).trans r4
    try simp only [List.getElem_toArray, List.getElem_cons_zero, List.getElem_cons_succ]
    go_simp
    exact rfl
  try simp only [Act.put, List.setIfInBounds_toArray, List.set_cons_zero, List.set_cons_succ, List.getElem_toArray, List.getElem_cons_zero, List.getElem_cons_succ]
  refine mix.D_take (i := 4) (v := ?_) rfl (by kernel_rfl) (by kernel_rfl) (fun _ _ _ h => h) (Or.inl ⟨by rfl, ?_⟩) hS0 ?_
  rotate_left
  · intro w' hSw
    have y0 := (hSw.cell (p := ⟨w.heap.size, 0, none⟩) lC1).trans rc
    have y1 := (hSw.cell (p := ⟨wb, o + 2, none⟩) lW1).trans b2
    have y2 := (hSw.cell (p := ⟨bk, off + (j) * 5 + 1, none⟩) lK1).trans r1
    have y3 := (hSw.cell (p := ⟨bk, off + (j) * 5 + 2, none⟩) lK1).trans r2
    have y4 := (hSw.cell (p := ⟨bk, off + (j) * 5 + 3, none⟩) lK1).trans r3
    have y5 := (hSw.cell (p := ⟨bk, off + (j) * 5 + 4, none⟩) lK1).trans r4
    try simp only [List.getElem_toArray, List.getElem_cons_zero, List.getElem_cons_succ]
    go_simp
    exact rfl
  try simp only [Act.put, List.setIfInBounds_toArray, List.set_cons_zero, List.set_cons_succ, List.getElem_toArray, List.getElem_cons_zero, List.getElem_cons_succ]
  refine mix.D_take (i := 5) (v := ?_) rfl (by kernel_rfl) (by kernel_rfl) (fun _ _ _ h => h) (Or.inl ⟨by rfl, ?_⟩) hS0 ?_
  rotate_left
  · intro w' hSw
    have y0 := (hSw.cell (p := ⟨w.heap.size, 0, none⟩) lC1).trans rc
    have y1 := (hSw.cell (p := ⟨wb, o + 2, none⟩) lW1).trans b2
    have y2 := (hSw.cell (p := ⟨bk, off + (j) * 5 + 1, none⟩) lK1).trans r1
    have y3 := (hSw.cell (p := ⟨bk, off + (j) * 5 + 2, none⟩) lK1).trans r2
    have y4 := (hSw.cell (p := ⟨bk, off + (j) * 5 + 3, none⟩) lK1).trans r3
    have y5 := (hSw.cell (p := ⟨bk, off + (j) * 5 + 4, none⟩) lK1).trans r4
    try simp only [List.getElem_toArray, List.getElem_cons_zero, List.getElem_cons_succ]
    go_simp
    exact rfl
  try simp only [Act.put, List.setIfInBounds_toArray, List.set_cons_zero, List.set_cons_succ, List.getElem_toArray, List.getElem_cons_zero, List.getElem_cons_succ]
  refine mix.D_take (i := 6) (v := ?_) rfl (by kernel_rfl) (by kernel_rfl) (fun _ _ _ h => h) (Or.inl ⟨by rfl, ?_⟩) hS0 ?_
  rotate_left
  · intro w' hSw
    have y0 := (hSw.cell (p := ⟨w.heap.size, 0, none⟩) lC1).trans rc
    have y1 := (hSw.cell (p := ⟨wb, o + 2, none⟩) lW1).trans b2
    have y2 := (hSw.cell (p := ⟨bk, off + (j) * 5 + 1, none⟩) lK1).trans r1
    have y3 := (hSw.cell (p := ⟨bk, off + (j) * 5 + 2, none⟩) lK1).trans r2
    have y4 := (hSw.cell (p := ⟨bk, off + (j) * 5 + 3, none⟩) lK1).trans r3
    have y5 := (hSw.cell (p := ⟨bk, off + (j) * 5 + 4, none⟩) lK1).trans r4
    try simp only [List.getElem_toArray, List.getElem_cons_zero, List.getElem_cons_succ]
    go_simp
    exact rfl
  try simp only [Act.put, List.setIfInBounds_toArray, List.set_cons_zero, List.set_cons_succ, List.getElem_toArray, List.getElem_cons_zero, List.getElem_cons_succ]
  refine mix.D_take (i := 7) (v := ?_) rfl (by kernel_rfl) (by kernel_rfl) (fun _ _ _ h => h) (Or.inl ⟨by rfl, ?_⟩) hS0 ?_
  rotate_left
  · intro w' hSw
    have y0 := (hSw.cell (p := ⟨w.heap.size, 0, none⟩) lC1).trans rc
    have y1 := (hSw.cell (p := ⟨wb, o + 2, none⟩) lW1).trans b2
    have y2 := (hSw.cell (p := ⟨bk, off + (j) * 5 + 1, none⟩) lK1).trans r1
    have y3 := (hSw.cell (p := ⟨bk, off + (j) * 5 + 2, none⟩) lK1).trans r2
    have y4 := (hSw.cell (p := ⟨bk, off + (j) * 5 + 3, none⟩) lK1).trans r3
    have y5 := (hSw.cell (p := ⟨bk, off + (j) * 5 + 4, none⟩) lK1).trans r4
    try simp only [List.getElem_toArray, List.getElem_cons_zero, List.getElem_cons_succ]
    go_simp
    exact rfl
  try simp only [Act.put, List.setIfInBounds_toArray, List.set_cons_zero, List.set_cons_succ, List.getElem_toArray, List.getElem_cons_zero, List.getElem_cons_succ]
  refine mix.D_take (i := 8) (v := ?_) rfl (by kernel_rfl) (by kernel_rfl) (fun _ _ _ h => h) (Or.inl ⟨by rfl, ?_⟩) hS0 ?_
  rotate_left
  · intro w' hSw
    have y0 := (hSw.cell (p := ⟨w.heap.size, 0, none⟩) lC1).trans rc
    have y1 := (hSw.cell (p := ⟨wb, o + 2, none⟩) lW1).trans b2
    have y2 := (hSw.cell (p := ⟨bk, off + (j) * 5 + 1, none⟩) lK1).trans r1
    have y3 := (hSw.cell (p := ⟨bk, off + (j) * 5 + 2, none⟩) lK1).trans r2
    have y4 := (hSw.cell (p := ⟨bk, off + (j) * 5 + 3, none⟩) lK1).trans r3
    have y5 := (hSw.cell (p := ⟨bk, off + (j) * 5 + 4, none⟩) lK1).trans r4
    try simp only [List.getElem_toArray, List.getElem_cons_zero, List.getElem_cons_succ]
    go_simp
    exact rfl
  try simp only [Act.put, List.setIfInBounds_toArray, List.set_cons_zero, List.set_cons_succ, List.getElem_toArray, List.getElem_cons_zero, List.getElem_cons_succ]
  refine mix.D_take (i := 9) (v := ?_) rfl (by kernel_rfl) (by kernel_rfl) (fun _ _ _ h => h) (Or.inl ⟨by rfl, ?_⟩) hS0 ?_
  rotate_left
  · intro w' hSw
    have y0 := (hSw.cell (p := ⟨w.heap.size, 0, none⟩) lC1).trans rc
    have y1 := (hSw.cell (p := ⟨wb, o + 2, none⟩) lW1).trans b2
    have y2 := (hSw.cell (p := ⟨bk, off + (j) * 5 + 1, none⟩) lK1).trans r1
    have y3 := (hSw.cell (p := ⟨bk, off + (j) * 5 + 2, none⟩) lK1).trans r2
    have y4 := (hSw.cell (p := ⟨bk, off + (j) * 5 + 3, none⟩) lK1).trans r3
    have y5 := (hSw.cell (p := ⟨bk, off + (j) * 5 + 4, none⟩) lK1).trans r4
    try simp only [List.getElem_toArray, List.getElem_cons_zero, List.getElem_cons_succ]
    go_simp
    exact rfl
  try simp only [Act.put, List.setIfInBounds_toArray, List.set_cons_zero, List.set_cons_succ, List.getElem_toArray, List.getElem_cons_zero, List.getElem_cons_succ]
  refine mix.D_take (i := 10) (v := ?_) rfl (by kernel_rfl) (by kernel_rfl) (fun _ _ _ h => h) (Or.inl ⟨by rfl, ?_⟩) hS0 ?_
  rotate_left
  · intro w' hSw
    have y0 := (hSw.cell (p := ⟨w.heap.size, 0, none⟩) lC1).trans rc
    have y1 := (hSw.cell (p := ⟨wb, o + 2, none⟩) lW1).trans b2
    have y2 := (hSw.cell (p := ⟨bk, off + (j) * 5 + 1, none⟩) lK1).trans r1
    have y3 := (hSw.cell (p := ⟨bk, off + (j) * 5 + 2, none⟩) lK1).trans r2
    have y4 := (hSw.cell (p := ⟨bk, off + (j) * 5 + 3, none⟩) lK1).trans r3
    have y5 := (hSw.cell (p := ⟨bk, off + (j) * 5 + 4, none⟩) lK1).trans r4
    try simp only [List.getElem_toArray, List.getElem_cons_zero, List.getElem_cons_succ]
    go_simp
    exact rfl
  try simp only [Act.put, List.setIfInBounds_toArray, List.set_cons_zero, List.set_cons_succ, List.getElem_toArray, List.getElem_cons_zero, List.getElem_cons_succ]
  refine mix.D_two (k := 11) (j := 15) rfl rfl rfl rfl (by kernel_rfl) (fun K' hK => ?_) (fun K' hK => ?_)
  · simp only [List.getElem_toArray, List.getElem_cons_zero, List.getElem_cons_succ]
    go_wp2_with fail
    refine (HP.out _ (bW.trans ((I9.trans (hS0.mono I9.size)).mono bW.size))).mono ?_
    rintro e wb1 ⟨hs1, ⟨lf, es, kz, A, c, Q2, m2⟩, rfl, hyp, O1⟩
    have hlf : lf ≠ b := fun h => hb1 ((congrArg (·.1) hyp.symm).trans h)
    clear O1
    have hb1 : Below W1.heap.size W1 wb1 := hS0.trans (hs1.mono hS0.size)
    refine hK.out _ _ (fun _ => hb1) ?_
    clear hK K'
    try simp only [Act.put, List.setIfInBounds_toArray, List.set_cons_zero, List.set_cons_succ]
    refine mix.D_take (i := 12) (v := ?_) rfl (by kernel_rfl) (by kernel_rfl) (fun _ _ _ h => h) (Or.inl ⟨by rfl, ?_⟩) hb1 ?_
    rotate_left
    · intro w' hSw
      have y0 := (hSw.cell (p := ⟨w.heap.size, 0, none⟩) lC1).trans rc
      have y1 := (hSw.cell (p := ⟨wb, o + 2, none⟩) lW1).trans b2
      have y2 := (hSw.cell (p := ⟨bk, off + (j) * 5 + 1, none⟩) lK1).trans r1
      have y3 := (hSw.cell (p := ⟨bk, off + (j) * 5 + 2, none⟩) lK1).trans r2
      have y4 := (hSw.cell (p := ⟨bk, off + (j) * 5 + 3, none⟩) lK1).trans r3
      have y5 := (hSw.cell (p := ⟨bk, off + (j) * 5 + 4, none⟩) lK1).trans r4
      try simp only [List.getElem_toArray, List.getElem_cons_zero, List.getElem_cons_succ]
      go_simp
      exact rfl
    try simp only [Act.put, List.setIfInBounds_toArray, List.set_cons_zero, List.set_cons_succ, List.getElem_toArray, List.getElem_cons_zero, List.getElem_cons_succ]
    refine mix.D_take (i := 13) (v := ?_) rfl (by kernel_rfl) (by kernel_rfl) (fun _ _ _ h => h) (Or.inl ⟨by rfl, ?_⟩) hb1 ?_
    rotate_left
    · intro w' hSw
      have y0 := (hSw.cell (p := ⟨w.heap.size, 0, none⟩) lC1).trans rc
      have y1 := (hSw.cell (p := ⟨wb, o + 2, none⟩) lW1).trans b2
      have y2 := (hSw.cell (p := ⟨bk, off + (j) * 5 + 1, none⟩) lK1).trans r1
      have y3 := (hSw.cell (p := ⟨bk, off + (j) * 5 + 2, none⟩) lK1).trans r2
      have y4 := (hSw.cell (p := ⟨bk, off + (j) * 5 + 3, none⟩) lK1).trans r3
      have y5 := (hSw.cell (p := ⟨bk, off + (j) * 5 + 4, none⟩) lK1).trans r4
      try simp only [List.getElem_toArray, List.getElem_cons_zero, List.getElem_cons_succ]
      go_simp
      exact rfl
    try simp only [Act.put, List.setIfInBounds_toArray, List.set_cons_zero, List.set_cons_succ, List.getElem_toArray, List.getElem_cons_zero, List.getElem_cons_succ]
    refine mix.D_take (i := 14) (v := ?_) rfl (by kernel_rfl) (by kernel_rfl) (fun _ _ _ h => h) (Or.inl ⟨by rfl, ?_⟩) hb1 ?_
    rotate_left
    · intro w' hSw
      have y0 := (hSw.cell (p := ⟨w.heap.size, 0, none⟩) lC1).trans rc
      have y1 := (hSw.cell (p := ⟨wb, o + 2, none⟩) lW1).trans b2
      have y2 := (hSw.cell (p := ⟨bk, off + (j) * 5 + 1, none⟩) lK1).trans r1
      have y3 := (hSw.cell (p := ⟨bk, off + (j) * 5 + 2, none⟩) lK1).trans r2
      have y4 := (hSw.cell (p := ⟨bk, off + (j) * 5 + 3, none⟩) lK1).trans r3
      have y5 := (hSw.cell (p := ⟨bk, off + (j) * 5 + 4, none⟩) lK1).trans r4
      try simp only [List.getElem_toArray, List.getElem_cons_zero, List.getElem_cons_succ]
      go_simp
      exact rfl
    try simp only [Act.put, List.setIfInBounds_toArray, List.set_cons_zero, List.set_cons_succ, List.getElem_toArray, List.getElem_cons_zero, List.getElem_cons_succ]
    refine mix.D_op (k := 15) rfl rfl (by kernel_rfl) (fun K' hK => ?_)
    simp only [List.getElem_toArray, List.getElem_cons_zero, List.getElem_cons_succ]
    go_wp2_with fail
    have hs2 : Below wb1.heap.size wb1 (wb1.alloc (.cells #[.bool false, .slice none 0 0, .slice none 0 0] 60)) := (Below.refl _ _).alloc (Nat.le_refl _) _
    have G2 := Blk.new wb1 60 #[.bool false, .slice none 0 0, .slice none 0 0]
    have hsz2 : wb1.heap.size < (wb1.alloc (.cells #[.bool false, .slice none 0 0, .slice none 0 0] 60)).heap.size := by simp
    have hg2 := vers.lay (rfl : wb1.heap.size = wb1.heap.size)
    generalize wb1.alloc (.cells #[.bool false, .slice none 0 0, .slice none 0 0] 60) = wa2 at hs2 G2 hsz2 ⊢
    have hb2 : Below W1.heap.size W1 wa2 := hb1.trans (hs2.mono hb1.size)
    refine hK.out _ _ (fun _ => hb2) ?_
    clear hK K'
    try simp only [Act.put, List.setIfInBounds_toArray, List.set_cons_zero, List.set_cons_succ]
    refine mix.D_op (k := 16) rfl rfl (by kernel_rfl) (fun K' hK => ?_)
    simp only [List.getElem_toArray, List.getElem_cons_zero, List.getElem_cons_succ]
    have f0 := G2.frozen 0
    have f1 := G2.frozen 1
    have f2 := G2.frozen 2
    have l0 := G2.lt
    have n0 := G2.cell 0
    have n1 := G2.cell 1
    have n2 := G2.cell 2
    simp at n0 n1 n2
    go_wp2_with fail
    have hk3 := set3_blk G2 (.bool lf) (.slice A es.length c) (.slice Q2 kz.length m2)
    have hb3 : Below W1.heap.size W1 _ := set3_below hb2 (g := wb1.heap.size) (hb1.size) (.bool lf) (.slice A es.length c) (.slice Q2 kz.length m2)
    have hs3 := Nat.le_of_eq (set3_size wa2 wb1.heap.size (.bool lf) (.slice A es.length c) (.slice Q2 kz.length m2)).symm
    unfold set3 at hk3 hb3 hs3
    clear f0 f1 f2 l0 n0 n1 n2
    generalize ((wa2.setCell ⟨wb1.heap.size, 0, none⟩ (.bool lf)).setCell ⟨wb1.heap.size, 1, none⟩ (.slice A es.length c)).setCell ⟨wb1.heap.size, 2, none⟩ (.slice Q2 kz.length m2) = wb3 at hk3 hb3 hs3 ⊢
    refine hK.out _ _ (fun _ => hb3) ?_
    clear hK K'
    try simp only [Act.put, List.setIfInBounds_toArray, List.set_cons_zero, List.set_cons_succ]
    refine mix.D_op (k := 17) rfl rfl (by kernel_rfl) (fun K' hK => ?_)
    simp only [List.getElem_toArray, List.getElem_cons_zero, List.getElem_cons_succ]
    go_wp2_with fail
    refine hK.out _ _ (fun h => by simp at h) ?_
    clear hK K'
    refine mix.D_done (by kernel_rfl) ?_ _
    try simp only [Act.put, List.getElem_toArray, List.getElem_cons_zero, List.getElem_cons_succ, List.setIfInBounds_toArray, List.set_cons_zero, List.set_cons_succ]
    have z0 := hk3.cell 0
    simp at z0
    have d9 : (lf != b) = true := by cases lf <;> cases b <;> simp_all
    have d8 : (lf == b) = false := by cases lf <;> cases b <;> simp_all
    have bZ := bW.trans ((I9.trans (hb3.mono I9.size)).mono bW.size)
    go_wp2_with fail
    refine bodyPost_ret (v := .int .i64 0) (by simp [results, Try.results87, go_sem]) rfl ⟨rfl, bZ⟩
  · simp only [List.getElem_toArray, List.getElem_cons_zero, List.getElem_cons_succ]
    go_wp2_with fail
    have hs5 : Below W1d.heap.size W1d (W1d.alloc (.cells #[.bool false, .slice none 0 0, .slice none 0 0] 60)) := (Below.refl _ _).alloc (Nat.le_refl _) _
    have G5 := Blk.new W1d 60 #[.bool false, .slice none 0 0, .slice none 0 0]
    have hsz5 : W1d.heap.size < (W1d.alloc (.cells #[.bool false, .slice none 0 0, .slice none 0 0] 60)).heap.size := by simp
    have hg5 := vers.lay (rfl : W1d.heap.size = W1d.heap.size)
    generalize W1d.alloc (.cells #[.bool false, .slice none 0 0, .slice none 0 0] 60) = wa5 at hs5 G5 hsz5 ⊢
    have hb5 : Below W1.heap.size W1 wa5 := hS0.trans (hs5.mono hS0.size)
    refine hK.out _ _ (fun _ => hb5) ?_
    clear hK K'
    try simp only [Act.put, List.setIfInBounds_toArray, List.set_cons_zero, List.set_cons_succ]
    refine mix.D_op (k := 11) rfl rfl (by kernel_rfl) (fun K' hK => ?_)
    simp only [List.getElem_toArray, List.getElem_cons_zero, List.getElem_cons_succ]
    go_wp2_with fail
    refine (HP.out _ (bW.trans ((I9.trans (hb5.mono I9.size)).mono bW.size))).mono ?_
    rintro e wb6 ⟨hs6, ⟨lf, es, kz, A, c, Q2, m2⟩, rfl, hyp, O6⟩
    have hlf : lf ≠ b := fun h => hb1 ((congrArg (·.1) hyp.symm).trans h)
    clear O6
    have G6 := G5.below hs6 G5.lt
    have hb6 : Below W1.heap.size W1 wb6 := hb5.trans (hs6.mono hb5.size)
    refine hK.out _ _ (fun _ => hb6) ?_
    clear hK K'
    try simp only [Act.put, List.setIfInBounds_toArray, List.set_cons_zero, List.set_cons_succ]
    refine mix.D_take (i := 12) (v := ?_) rfl (by kernel_rfl) (by kernel_rfl) (fun _ _ _ h => h) (Or.inl ⟨by rfl, ?_⟩) hb6 ?_
    rotate_left
    · intro w' hSw
      have y0 := (hSw.cell (p := ⟨w.heap.size, 0, none⟩) lC1).trans rc
      have y1 := (hSw.cell (p := ⟨wb, o + 2, none⟩) lW1).trans b2
      have y2 := (hSw.cell (p := ⟨bk, off + (j) * 5 + 1, none⟩) lK1).trans r1
      have y3 := (hSw.cell (p := ⟨bk, off + (j) * 5 + 2, none⟩) lK1).trans r2
      have y4 := (hSw.cell (p := ⟨bk, off + (j) * 5 + 3, none⟩) lK1).trans r3
      have y5 := (hSw.cell (p := ⟨bk, off + (j) * 5 + 4, none⟩) lK1).trans r4
      try simp only [List.getElem_toArray, List.getElem_cons_zero, List.getElem_cons_succ]
      go_simp
      exact rfl
    try simp only [Act.put, List.setIfInBounds_toArray, List.set_cons_zero, List.set_cons_succ, List.getElem_toArray, List.getElem_cons_zero, List.getElem_cons_succ]
    refine mix.D_take (i := 13) (v := ?_) rfl (by kernel_rfl) (by kernel_rfl) (fun _ _ _ h => h) (Or.inl ⟨by rfl, ?_⟩) hb6 ?_
    rotate_left
    · intro w' hSw
      have y0 := (hSw.cell (p := ⟨w.heap.size, 0, none⟩) lC1).trans rc
      have y1 := (hSw.cell (p := ⟨wb, o + 2, none⟩) lW1).trans b2
      have y2 := (hSw.cell (p := ⟨bk, off + (j) * 5 + 1, none⟩) lK1).trans r1
      have y3 := (hSw.cell (p := ⟨bk, off + (j) * 5 + 2, none⟩) lK1).trans r2
      have y4 := (hSw.cell (p := ⟨bk, off + (j) * 5 + 3, none⟩) lK1).trans r3
      have y5 := (hSw.cell (p := ⟨bk, off + (j) * 5 + 4, none⟩) lK1).trans r4
      try simp only [List.getElem_toArray, List.getElem_cons_zero, List.getElem_cons_succ]
      go_simp
      exact rfl
    try simp only [Act.put, List.setIfInBounds_toArray, List.set_cons_zero, List.set_cons_succ, List.getElem_toArray, List.getElem_cons_zero, List.getElem_cons_succ]
    refine mix.D_take (i := 14) (v := ?_) rfl (by kernel_rfl) (by kernel_rfl) (fun _ _ _ h => h) (Or.inl ⟨by rfl, ?_⟩) hb6 ?_
    rotate_left
    · intro w' hSw
      have y0 := (hSw.cell (p := ⟨w.heap.size, 0, none⟩) lC1).trans rc
      have y1 := (hSw.cell (p := ⟨wb, o + 2, none⟩) lW1).trans b2
      have y2 := (hSw.cell (p := ⟨bk, off + (j) * 5 + 1, none⟩) lK1).trans r1
      have y3 := (hSw.cell (p := ⟨bk, off + (j) * 5 + 2, none⟩) lK1).trans r2
      have y4 := (hSw.cell (p := ⟨bk, off + (j) * 5 + 3, none⟩) lK1).trans r3
      have y5 := (hSw.cell (p := ⟨bk, off + (j) * 5 + 4, none⟩) lK1).trans r4
      try simp only [List.getElem_toArray, List.getElem_cons_zero, List.getElem_cons_succ]
      go_simp
      exact rfl
    try simp only [Act.put, List.setIfInBounds_toArray, List.set_cons_zero, List.set_cons_succ, List.getElem_toArray, List.getElem_cons_zero, List.getElem_cons_succ]
    refine mix.D_op (k := 16) rfl rfl (by kernel_rfl) (fun K' hK => ?_)
    simp only [List.getElem_toArray, List.getElem_cons_zero, List.getElem_cons_succ]
    have f0 := G6.frozen 0
    have f1 := G6.frozen 1
    have f2 := G6.frozen 2
    have l0 := G6.lt
    have n0 := G6.cell 0
    have n1 := G6.cell 1
    have n2 := G6.cell 2
    simp at n0 n1 n2
    go_wp2_with fail
    have hk7 := set3_blk G6 (.bool lf) (.slice A es.length c) (.slice Q2 kz.length m2)
    have hb7 : Below W1.heap.size W1 _ := set3_below hb6 (g := W1d.heap.size) (hS0.size) (.bool lf) (.slice A es.length c) (.slice Q2 kz.length m2)
    have hs7 := Nat.le_of_eq (set3_size wb6 W1d.heap.size (.bool lf) (.slice A es.length c) (.slice Q2 kz.length m2)).symm
    unfold set3 at hk7 hb7 hs7
    clear f0 f1 f2 l0 n0 n1 n2
    generalize ((wb6.setCell ⟨W1d.heap.size, 0, none⟩ (.bool lf)).setCell ⟨W1d.heap.size, 1, none⟩ (.slice A es.length c)).setCell ⟨W1d.heap.size, 2, none⟩ (.slice Q2 kz.length m2) = wb7 at hk7 hb7 hs7 ⊢
    refine hK.out _ _ (fun _ => hb7) ?_
    clear hK K'
    try simp only [Act.put, List.setIfInBounds_toArray, List.set_cons_zero, List.set_cons_succ]
    refine mix.D_op (k := 17) rfl rfl (by kernel_rfl) (fun K' hK => ?_)
    simp only [List.getElem_toArray, List.getElem_cons_zero, List.getElem_cons_succ]
    go_wp2_with fail
    refine hK.out _ _ (fun h => by simp at h) ?_
    clear hK K'
    refine mix.D_done (by kernel_rfl) ?_ _
    try simp only [Act.put, List.getElem_toArray, List.getElem_cons_zero, List.getElem_cons_succ, List.setIfInBounds_toArray, List.set_cons_zero, List.set_cons_succ]
    have z0 := hk7.cell 0
    simp at z0
    have d9 : (lf != b) = true := by cases lf <;> cases b <;> simp_all
    have d8 : (lf == b) = false := by cases lf <;> cases b <;> simp_all
    have bZ := bW.trans ((I9.trans (hb7.mono I9.size)).mono bW.size)
    go_wp2_with fail
    refine bodyPost_ret (v := .int .i64 0) (by simp [results, Try.results87, go_sem]) rfl ⟨rfl, bZ⟩

set_option maxRecDepth 100000 in
set_option maxHeartbeats 4000000 in
theorem beside_left_err (h : Nat) (S : Nat → Prop) (ns : List P3) (wb o i j d : Nat) (hj : j + 1 = i) (ks : List K) (Q : Option Addr) (m : Nat) (k : Int) (b : Bool) (hk0 : k ≠ 0) (F : Nat → Prop) (u4 u5 : Value) (w : World) (hh : Hp w h S ns) (hK : KsF w F ks Q m) (hF : ∀ g, F g → g < w.heap.size) (hwb : wb < w.heap.size)
    (c2 : w.cell? ⟨wb, o + 2, none⟩ = some (.slice Q ks.length m)) (c3 : w.cell? ⟨wb, o + 3, none⟩ = some (.int .i64 (i : Int))) (c4 : w.cell? ⟨wb, o + 4, none⟩ = some u4) (c5 : w.cell? ⟨wb, o + 5, none⟩ = some u5) (f4 : w.frozen? ⟨wb, o + 4, none⟩ = false) (f5 : w.frozen? ⟨wb, o + 5, none⟩ = false)
    (hi : i < ks.length) (h2 : 1 < ks.length) (hc : ¬ i + 1 < ks.length) (hl : ks.length ≤ 1000) (hd : d < 1000) (hp : pageE ns (ks[j]?.getD zK).r d = .error k) :
    Calls Try.prog 87 #[clim h, .pointer (some ⟨wb, o, none⟩), .int .i64 (d : Int), .bool b] w (BnPost w k) := by
  have hk1 : j < ks.length := by omega
  obtain ⟨bk, off, rfl, hbk, _, q1, q2, q3, q4⟩ := hK.ks.at_ hk1
  have hfit := hK.2.2.2.2 _ (List.getElem_mem hk1)
  rw [List.getElem?_eq_getElem hk1, Option.getD_some] at hp
  generalize ks[j] = kk at q1 q2 q3 q4 hfit hp
  have bW := (Below.refl w.heap.size w).alloc (Nat.le_refl _) (.cells #[.iface 23 (.pointer (some ⟨h, 0, none⟩))] 111)
  have kC := Blk.new w 111 #[.iface 23 (.pointer (some ⟨h, 0, none⟩))]
  have lC : w.heap.size < (w.alloc (.cells #[.iface 23 (.pointer (some ⟨h, 0, none⟩))] 111)).heap.size := by simp
  have HP := vers.lay (show ∀ wx : World, Below w.heap.size w wx → Calls Try.prog 80 #[clim h, kk.r.val, .int .i64 (d : Int)] wx (PPost wx (.error k)) from fun wx hb => by
    have := page_any kk.r d h S ns wx (hh.below hb) hfit.2 (by omega)
    rwa [hp] at this)
  have HHi := vers.lay hi
  have HHl := vers.lay hl
  clear hh hK hp hfit
  have lW : wb < (w.alloc (.cells #[.iface 23 (.pointer (some ⟨h, 0, none⟩))] 111)).heap.size := by simp; omega
  have lK : bk < (w.alloc (.cells #[.iface 23 (.pointer (some ⟨h, 0, none⟩))] 111)).heap.size := by simp; omega
  have a2 := (bW.cell (p := ⟨wb, o + 2, none⟩) hwb).trans c2
  have a3 := (bW.cell (p := ⟨wb, o + 3, none⟩) hwb).trans c3
  have a4 := (bW.cell (p := ⟨wb, o + 4, none⟩) hwb).trans c4
  have a5 := (bW.cell (p := ⟨wb, o + 5, none⟩) hwb).trans c5
  have g4 := (bW.frozen (p := ⟨wb, o + 4, none⟩) hwb).trans f4
  have g5 := (bW.frozen (p := ⟨wb, o + 5, none⟩) hwb).trans f5
  have p1 := (bW.cell (p := ⟨bk, off + (j) * 5 + 1, none⟩) hbk).trans q1
  have p2 := (bW.cell (p := ⟨bk, off + (j) * 5 + 2, none⟩) hbk).trans q2
  have p3 := (bW.cell (p := ⟨bk, off + (j) * 5 + 3, none⟩) hbk).trans q3
  have p4 := (bW.cell (p := ⟨bk, off + (j) * 5 + 4, none⟩) hbk).trans q4
  have kc := kC.cell 0
  simp only [List.getElem?_toArray, List.getElem?_cons_zero, List.getElem?_cons_succ] at kc
  clear c2 c3 c4 c5 f4 f5 q1 q2 q3 q4
  go_enter Try.func87, Try.ntmps87
  go_wp2_with fail
  generalize hWW : w.alloc (.cells #[.iface 23 (.pointer (some ⟨h, 0, none⟩))] 111) = W at *
  obtain ⟨N, hN, hM⟩ := norms (fun wx => Below W.heap.size W wx) W (Below.refl _ _)
  have hne : Nonempty World := ⟨W⟩
  have v2 := fun n => ((hN n).cell (p := ⟨wb, o + 2, none⟩) lW).trans a2
  have v3 := fun n => ((hN n).cell (p := ⟨wb, o + 3, none⟩) lW).trans a3
  have e1 : IntKind.i64.wrap ((i : Int) + 1) = (i : Int) + 1 := IntWalk.i64_in _ (by omega)
  have e2 : IntKind.i64.wrap ((i : Int) - 1) = (i : Int) - 1 := IntWalk.i64_in _ (by omega)
  have d1 : decide ((i : Int) + 1 < (ks.length : Int)) = false := decide_eq_false (by omega)
  refine region_class N (by kernel_rfl) (by kernel_rfl) (hM _ (Below.refl _ W).drew) ?_
  repeat (go_big_quiet_step (fail))
  refine wpQuiet_nil ?_
  rintro _ ⟨nn, rfl⟩
  have I9 := hN nn
  generalize N nn = W1 at I9 ⊢
  have sW1 := I9.size
  have b2 := (I9.cell (p := ⟨wb, o + 2, none⟩) lW).trans a2
  have b3 := (I9.cell (p := ⟨wb, o + 3, none⟩) lW).trans a3
  have b4 := (I9.cell (p := ⟨wb, o + 4, none⟩) lW).trans a4
  have b5 := (I9.cell (p := ⟨wb, o + 5, none⟩) lW).trans a5
  have h4 := (I9.frozen (p := ⟨wb, o + 4, none⟩) lW).trans g4
  have h5 := (I9.frozen (p := ⟨wb, o + 5, none⟩) lW).trans g5
  have r1 := (I9.cell (p := ⟨bk, off + (j) * 5 + 1, none⟩) lK).trans p1
  have r2 := (I9.cell (p := ⟨bk, off + (j) * 5 + 2, none⟩) lK).trans p2
  have r3 := (I9.cell (p := ⟨bk, off + (j) * 5 + 3, none⟩) lK).trans p3
  have r4 := (I9.cell (p := ⟨bk, off + (j) * 5 + 4, none⟩) lK).trans p4
  have rc := (I9.cell (p := ⟨w.heap.size, 0, none⟩) lC).trans kc
  clear v2 v3 hN hM N hne a2 a3 a4 a5 g4 g5 p1 p2 p3 p4 kc d1 h2
  go_wp2_with fail
  have ej : (i : Int) - 1 = (j : Int) := by omega
  simp only [ej]
  clear ej hc hj
  have dI : (0 : Int) ≤ (j : Int) ∧ (j : Int) < (ks.length : Int) := by omega
  have lC1 := Nat.lt_of_lt_of_le lC sW1
  have lW1 := Nat.lt_of_lt_of_le lW sW1
  have lK1 := Nat.lt_of_lt_of_le lK sW1
  have hS0 : Below W1.heap.size W1 W1.drew := (Below.refl _ _).drew
  refine mix.region_D (fun w' => Below W1.heap.size W1 w') (fun j => j == 17) (by kernel_rfl) ?_
  generalize W1.drew = W1d at hS0 ⊢
  refine mix.D_take (i := 0) (v := ?_) rfl (by kernel_rfl) (by kernel_rfl) (fun _ _ _ h => h) (Or.inl ⟨by rfl, ?_⟩) hS0 ?_
  rotate_left
  · intro w' hSw
    have y0 := (hSw.cell (p := ⟨w.heap.size, 0, none⟩) lC1).trans rc
    have y1 := (hSw.cell (p := ⟨wb, o + 2, none⟩) lW1).trans b2
    have y2 := (hSw.cell (p := ⟨bk, off + (j) * 5 + 1, none⟩) lK1).trans r1
    have y3 := (hSw.cell (p := ⟨bk, off + (j) * 5 + 2, none⟩) lK1).trans r2
    have y4 := (hSw.cell (p := ⟨bk, off + (j) * 5 + 3, none⟩) lK1).trans r3
    have y5 := (hSw.cell (p := ⟨bk, off + (j) * 5 + 4, none⟩) lK1).trans r4
    try simp only [List.getElem_toArray, List.getElem_cons_zero, List.getElem_cons_succ]
    go_simp
    exact rfl
  try simp only [Act.put, List.setIfInBounds_toArray, List.set_cons_zero, List.set_cons_succ, List.getElem_toArray, List.getElem_cons_zero, List.getElem_cons_succ]
  refine mix.D_take (i := 1) (v := ?_) rfl (by kernel_rfl) (by kernel_rfl) (fun _ _ _ h => h) (Or.inl ⟨by rfl, ?_⟩) hS0 ?_
  rotate_left
  · intro w' hSw
    have y0 := (hSw.cell (p := ⟨w.heap.size, 0, none⟩) lC1).trans rc
    have y1 := (hSw.cell (p := ⟨wb, o + 2, none⟩) lW1).trans b2
    have y2 := (hSw.cell (p := ⟨bk, off + (j) * 5 + 1, none⟩) lK1).trans r1
    have y3 := (hSw.cell (p := ⟨bk, off + (j) * 5 + 2, none⟩) lK1).trans r2
    have y4 := (hSw.cell (p := ⟨bk, off + (j) * 5 + 3, none⟩) lK1).trans r3
    have y5 := (hSw.cell (p := ⟨bk, off + (j) * 5 + 4, none⟩) lK1).trans r4
    try simp only [List.getElem_toArray, List.getElem_cons_zero, List.getElem_cons_succ]
    go_simp
    exact rfl
  try simp only [Act.put, List.setIfInBounds_toArray, List.set_cons_zero, List.set_cons_succ, List.getElem_toArray, List.getElem_cons_zero, List.getElem_cons_succ]
  refine mix.D_take (i := 2) (v := ?_) rfl (by kernel_rfl) (by kernel_rfl) (fun _ _ _ h => h) (Or.inl ⟨by rfl, ?_⟩) hS0 ?_
  rotate_left
  · intro w' hSw
    have y0 := (hSw.cell (p := ⟨w.heap.size, 0, none⟩) lC1).trans rc
    have y1 := (hSw.cell (p := ⟨wb, o + 2, none⟩) lW1).trans b2
    have y2 := (hSw.cell (p := ⟨bk, off + (j) * 5 + 1, none⟩) lK1).trans r1
    have y3 := (hSw.cell (p := ⟨bk, off + (j) * 5 + 2, none⟩) lK1).trans r2
    have y4 := (hSw.cell (p := ⟨bk, off + (j) * 5 + 3, none⟩) lK1).trans r3
    have y5 := (hSw.cell (p := ⟨bk, off + (j) * 5 + 4, none⟩) lK1).trans r4
    try simp only [List.getElem_toArray, List.getElem_cons_zero, List.getElem_cons_succ]
    go_simp
    exact rfl
  try simp only [Act.put, List.setIfInBounds_toArray, List.set_cons_zero, List.set_cons_succ, List.getElem_toArray, List.getElem_cons_zero, List.getElem_cons_succ]
  refine mix.D_take (i := 3) (v := ?_) rfl (by kernel_rfl) (by kernel_rfl) (fun _ _ _ h => h) (Or.inl ⟨by rfl, ?_⟩) hS0 ?_
  rotate_left
  · intro w' hSw
    have y0 := (hSw.cell (p := ⟨w.heap.size, 0, none⟩) lC1).trans rc
    have y1 := (hSw.cell (p := ⟨wb, o + 2, none⟩) lW1).trans b2
    have y2 := (hSw.cell (p := ⟨bk, off + (j) * 5 + 1, none⟩) lK1).trans r1
    have y3 := (hSw.cell (p := ⟨bk, off + (j) * 5 + 2, none⟩) lK1).trans r2
    have y4 := (hSw.cell (p := ⟨bk, off + (j) * 5 + 3, none⟩) lK1).trans r3
    have y5 := (hSw.cell (p := ⟨bk, off + (j) * 5 + 4, none⟩) lK1).trans r4
    try simp only [List.getElem_toArray, List.getElem_cons_zero, List.getElem_cons_succ]
    go_simp
    exact rfl
  try simp only [Act.put, List.setIfInBounds_toArray, List.set_cons_zero, List.set_cons_succ, List.getElem_toArray, List.getElem_cons_zero, List.getElem_cons_succ]
  refine mix.D_take (i := 4) (v := ?_) rfl (by kernel_rfl) (by kernel_rfl) (fun _ _ _ h => h) (Or.inl ⟨by rfl, ?_⟩) hS0 ?_
  rotate_left
  · intro w' hSw
    have y0 := (hSw.cell (p := ⟨w.heap.size, 0, none⟩) lC1).trans rc
    have y1 := (hSw.cell (p := ⟨wb, o + 2, none⟩) lW1).trans b2
    have y2 := (hSw.cell (p := ⟨bk, off + (j) * 5 + 1, none⟩) lK1).trans r1
    have y3 := (hSw.cell (p := ⟨bk, off + (j) * 5 + 2, none⟩) lK1).trans r2
    have y4 := (hSw.cell (p := ⟨bk, off + (j) * 5 + 3, none⟩) lK1).trans r3
    have y5 := (hSw.cell (p := ⟨bk, off + (j) * 5 + 4, none⟩) lK1).trans r4
    try simp only [List.getElem_toArray, List.getElem_cons_zero, List.getElem_cons_succ]
    go_simp
    exact rfl
  try simp only [Act.put, List.setIfInBounds_toArray, List.set_cons_zero, List.set_cons_succ, List.getElem_toArray, List.getElem_cons_zero, List.getElem_cons_succ]
  refine mix.D_take (i := 5) (v := ?_) rfl (by kernel_rfl) (by kernel_rfl) (fun _ _ _ h => h) (Or.inl ⟨by rfl, ?_⟩) hS0 ?_
  rotate_left
  · intro w' hSw
    have y0 := (hSw.cell (p := ⟨w.heap.size, 0, none⟩) lC1).trans rc
    have y1 := (hSw.cell (p := ⟨wb, o + 2, none⟩) lW1).trans b2
    have y2 := (hSw.cell (p := ⟨bk, off + (j) * 5 + 1, none⟩) lK1).trans r1
    have y3 := (hSw.cell (p := ⟨bk, off + (j) * 5 + 2, none⟩) lK1).trans r2
    have y4 := (hSw.cell (p := ⟨bk, off + (j) * 5 + 3, none⟩) lK1).trans r3
    have y5 := (hSw.cell (p := ⟨bk, off + (j) * 5 + 4, none⟩) lK1).trans r4
    try simp only [List.getElem_toArray, List.getElem_cons_zero, List.getElem_cons_succ]
    go_simp
    exact rfl
  try simp only [Act.put, List.setIfInBounds_toArray, List.set_cons_zero, List.set_cons_succ, List.getElem_toArray, List.getElem_cons_zero, List.getElem_cons_succ]
  refine mix.D_take (i := 6) (v := ?_) rfl (by kernel_rfl) (by kernel_rfl) (fun _ _ _ h => h) (Or.inl ⟨by rfl, ?_⟩) hS0 ?_
  rotate_left
  · intro w' hSw
    have y0 := (hSw.cell (p := ⟨w.heap.size, 0, none⟩) lC1).trans rc
    have y1 := (hSw.cell (p := ⟨wb, o + 2, none⟩) lW1).trans b2
    have y2 := (hSw.cell (p := ⟨bk, off + (j) * 5 + 1, none⟩) lK1).trans r1
    have y3 := (hSw.cell (p := ⟨bk, off + (j) * 5 + 2, none⟩) lK1).trans r2
    have y4 := (hSw.cell (p := ⟨bk, off + (j) * 5 + 3, none⟩) lK1).trans r3
    have y5 := (hSw.cell (p := ⟨bk, off + (j) * 5 + 4, none⟩) lK1).trans r4
    try simp only [List.getElem_toArray, List.getElem_cons_zero, List.getElem_cons_succ]
    go_simp
    exact rfl
  try simp only [Act.put, List.setIfInBounds_toArray, List.set_cons_zero, List.set_cons_succ, List.getElem_toArray, List.getElem_cons_zero, List.getElem_cons_succ]
  refine mix.D_take (i := 7) (v := ?_) rfl (by kernel_rfl) (by kernel_rfl) (fun _ _ _ h => h) (Or.inl ⟨by rfl, ?_⟩) hS0 ?_
  rotate_left
  · intro w' hSw
    have y0 := (hSw.cell (p := ⟨w.heap.size, 0, none⟩) lC1).trans rc
    have y1 := (hSw.cell (p := ⟨wb, o + 2, none⟩) lW1).trans b2
    have y2 := (hSw.cell (p := ⟨bk, off + (j) * 5 + 1, none⟩) lK1).trans r1
    have y3 := (hSw.cell (p := ⟨bk, off + (j) * 5 + 2, none⟩) lK1).trans r2
    have y4 := (hSw.cell (p := ⟨bk, off + (j) * 5 + 3, none⟩) lK1).trans r3
    have y5 := (hSw.cell (p := ⟨bk, off + (j) * 5 + 4, none⟩) lK1).trans r4
    try simp only [List.getElem_toArray, List.getElem_cons_zero, List.getElem_cons_succ]
    go_simp
    exact rfl
  try simp only [Act.put, List.setIfInBounds_toArray, List.set_cons_zero, List.set_cons_succ, List.getElem_toArray, List.getElem_cons_zero, List.getElem_cons_succ]
  refine mix.D_take (i := 8) (v := ?_) rfl (by kernel_rfl) (by kernel_rfl) (fun _ _ _ h => h) (Or.inl ⟨by rfl, ?_⟩) hS0 ?_
  rotate_left
  · intro w' hSw
    have y0 := (hSw.cell (p := ⟨w.heap.size, 0, none⟩) lC1).trans rc
    have y1 := (hSw.cell (p := ⟨wb, o + 2, none⟩) lW1).trans b2
    have y2 := (hSw.cell (p := ⟨bk, off + (j) * 5 + 1, none⟩) lK1).trans r1
    have y3 := (hSw.cell (p := ⟨bk, off + (j) * 5 + 2, none⟩) lK1).trans r2
    have y4 := (hSw.cell (p := ⟨bk, off + (j) * 5 + 3, none⟩) lK1).trans r3
    have y5 := (hSw.cell (p := ⟨bk, off + (j) * 5 + 4, none⟩) lK1).trans r4
    try simp only [List.getElem_toArray, List.getElem_cons_zero, List.getElem_cons_succ]
    go_simp
    exact rfl
  try simp only [Act.put, List.setIfInBounds_toArray, List.set_cons_zero, List.set_cons_succ, List.getElem_toArray, List.getElem_cons_zero, List.getElem_cons_succ]
  refine mix.D_take (i := 9) (v := ?_) rfl (by kernel_rfl) (by kernel_rfl) (fun _ _ _ h => h) (Or.inl ⟨by rfl, ?_⟩) hS0 ?_
  rotate_left
  · intro w' hSw
    have y0 := (hSw.cell (p := ⟨w.heap.size, 0, none⟩) lC1).trans rc
    have y1 := (hSw.cell (p := ⟨wb, o + 2, none⟩) lW1).trans b2
    have y2 := (hSw.cell (p := ⟨bk, off + (j) * 5 + 1, none⟩) lK1).trans r1
    have y3 := (hSw.cell (p := ⟨bk, off + (j) * 5 + 2, none⟩) lK1).trans r2
    have y4 := (hSw.cell (p := ⟨bk, off + (j) * 5 + 3, none⟩) lK1).trans r3
    have y5 := (hSw.cell (p := ⟨bk, off + (j) * 5 + 4, none⟩) lK1).trans r4
    try simp only [List.getElem_toArray, List.getElem_cons_zero, List.getElem_cons_succ]
    go_simp
    exact rfl
  try simp only [Act.put, List.setIfInBounds_toArray, List.set_cons_zero, List.set_cons_succ, List.getElem_toArray, List.getElem_cons_zero, List.getElem_cons_succ]
  refine mix.D_take (i := 10) (v := ?_) rfl (by kernel_rfl) (by kernel_rfl) (fun _ _ _ h => h) (Or.inl ⟨by rfl, ?_⟩) hS0 ?_
  rotate_left
  · intro w' hSw
    have y0 := (hSw.cell (p := ⟨w.heap.size, 0, none⟩) lC1).trans rc
    have y1 := (hSw.cell (p := ⟨wb, o + 2, none⟩) lW1).trans b2
    have y2 := (hSw.cell (p := ⟨bk, off + (j) * 5 + 1, none⟩) lK1).trans r1
    have y3 := (hSw.cell (p := ⟨bk, off + (j) * 5 + 2, none⟩) lK1).trans r2
    have y4 := (hSw.cell (p := ⟨bk, off + (j) * 5 + 3, none⟩) lK1).trans r3
    have y5 := (hSw.cell (p := ⟨bk, off + (j) * 5 + 4, none⟩) lK1).trans r4
    try simp only [List.getElem_toArray, List.getElem_cons_zero, List.getElem_cons_succ]
    go_simp
    exact rfl
  try simp only [Act.put, List.setIfInBounds_toArray, List.set_cons_zero, List.set_cons_succ, List.getElem_toArray, List.getElem_cons_zero, List.getElem_cons_succ]
  refine mix.D_two (k := 11) (j := 15) rfl rfl rfl rfl (by kernel_rfl) (fun K' hK => ?_) (fun K' hK => ?_)
  · simp only [List.getElem_toArray, List.getElem_cons_zero, List.getElem_cons_succ]
    go_wp2_with fail
    refine (HP.out _ (bW.trans ((I9.trans (hS0.mono I9.size)).mono bW.size))).mono ?_
    rintro e wb1 ⟨hs1, he1⟩
    obtain ⟨es, kz, A, c, Q2, m2, he1⟩ : ∃ es kz A c Q2 m2, e = .returned (.tuple #[(⟨false, es, kz, A, c, Q2, m2⟩ : N).val, .int .i64 k]) := ⟨[], [], none, 0, none, 0, he1⟩
    subst he1
    have hb1 : Below W1.heap.size W1 wb1 := hS0.trans (hs1.mono hS0.size)
    refine hK.out _ _ (fun _ => hb1) ?_
    clear hK K'
    try simp only [Act.put, List.setIfInBounds_toArray, List.set_cons_zero, List.set_cons_succ]
    refine mix.D_take (i := 12) (v := ?_) rfl (by kernel_rfl) (by kernel_rfl) (fun _ _ _ h => h) (Or.inl ⟨by rfl, ?_⟩) hb1 ?_
    rotate_left
    · intro w' hSw
      have y0 := (hSw.cell (p := ⟨w.heap.size, 0, none⟩) lC1).trans rc
      have y1 := (hSw.cell (p := ⟨wb, o + 2, none⟩) lW1).trans b2
      have y2 := (hSw.cell (p := ⟨bk, off + (j) * 5 + 1, none⟩) lK1).trans r1
      have y3 := (hSw.cell (p := ⟨bk, off + (j) * 5 + 2, none⟩) lK1).trans r2
      have y4 := (hSw.cell (p := ⟨bk, off + (j) * 5 + 3, none⟩) lK1).trans r3
      have y5 := (hSw.cell (p := ⟨bk, off + (j) * 5 + 4, none⟩) lK1).trans r4
      try simp only [List.getElem_toArray, List.getElem_cons_zero, List.getElem_cons_succ]
      go_simp
      exact rfl
    try simp only [Act.put, List.setIfInBounds_toArray, List.set_cons_zero, List.set_cons_succ, List.getElem_toArray, List.getElem_cons_zero, List.getElem_cons_succ]
    refine mix.D_take (i := 13) (v := ?_) rfl (by kernel_rfl) (by kernel_rfl) (fun _ _ _ h => h) (Or.inl ⟨by rfl, ?_⟩) hb1 ?_
    rotate_left
    · intro w' hSw
      have y0 := (hSw.cell (p := ⟨w.heap.size, 0, none⟩) lC1).trans rc
      have y1 := (hSw.cell (p := ⟨wb, o + 2, none⟩) lW1).trans b2
      have y2 := (hSw.cell (p := ⟨bk, off + (j) * 5 + 1, none⟩) lK1).trans r1
      have y3 := (hSw.cell (p := ⟨bk, off + (j) * 5 + 2, none⟩) lK1).trans r2
      have y4 := (hSw.cell (p := ⟨bk, off + (j) * 5 + 3, none⟩) lK1).trans r3
      have y5 := (hSw.cell (p := ⟨bk, off + (j) * 5 + 4, none⟩) lK1).trans r4
      try simp only [List.getElem_toArray, List.getElem_cons_zero, List.getElem_cons_succ]
      go_simp
      exact rfl
    try simp only [Act.put, List.setIfInBounds_toArray, List.set_cons_zero, List.set_cons_succ, List.getElem_toArray, List.getElem_cons_zero, List.getElem_cons_succ]
    refine mix.D_take (i := 14) (v := ?_) rfl (by kernel_rfl) (by kernel_rfl) (fun _ _ _ h => h) (Or.inl ⟨by rfl, ?_⟩) hb1 ?_
    rotate_left
    · intro w' hSw
      have y0 := (hSw.cell (p := ⟨w.heap.size, 0, none⟩) lC1).trans rc
      have y1 := (hSw.cell (p := ⟨wb, o + 2, none⟩) lW1).trans b2
      have y2 := (hSw.cell (p := ⟨bk, off + (j) * 5 + 1, none⟩) lK1).trans r1
      have y3 := (hSw.cell (p := ⟨bk, off + (j) * 5 + 2, none⟩) lK1).trans r2
      have y4 := (hSw.cell (p := ⟨bk, off + (j) * 5 + 3, none⟩) lK1).trans r3
      have y5 := (hSw.cell (p := ⟨bk, off + (j) * 5 + 4, none⟩) lK1).trans r4
      try simp only [List.getElem_toArray, List.getElem_cons_zero, List.getElem_cons_succ]
      go_simp
      exact rfl
    try simp only [Act.put, List.setIfInBounds_toArray, List.set_cons_zero, List.set_cons_succ, List.getElem_toArray, List.getElem_cons_zero, List.getElem_cons_succ]
    refine mix.D_op (k := 15) rfl rfl (by kernel_rfl) (fun K' hK => ?_)
    simp only [List.getElem_toArray, List.getElem_cons_zero, List.getElem_cons_succ]
    go_wp2_with fail
    have hs2 : Below wb1.heap.size wb1 (wb1.alloc (.cells #[.bool false, .slice none 0 0, .slice none 0 0] 60)) := (Below.refl _ _).alloc (Nat.le_refl _) _
    have G2 := Blk.new wb1 60 #[.bool false, .slice none 0 0, .slice none 0 0]
    have hsz2 : wb1.heap.size < (wb1.alloc (.cells #[.bool false, .slice none 0 0, .slice none 0 0] 60)).heap.size := by simp
    have hg2 := vers.lay (rfl : wb1.heap.size = wb1.heap.size)
    generalize wb1.alloc (.cells #[.bool false, .slice none 0 0, .slice none 0 0] 60) = wa2 at hs2 G2 hsz2 ⊢
    have hb2 : Below W1.heap.size W1 wa2 := hb1.trans (hs2.mono hb1.size)
    refine hK.out _ _ (fun _ => hb2) ?_
    clear hK K'
    try simp only [Act.put, List.setIfInBounds_toArray, List.set_cons_zero, List.set_cons_succ]
    refine mix.D_op (k := 16) rfl rfl (by kernel_rfl) (fun K' hK => ?_)
    simp only [List.getElem_toArray, List.getElem_cons_zero, List.getElem_cons_succ]
    have f0 := G2.frozen 0
    have f1 := G2.frozen 1
    have f2 := G2.frozen 2
    have l0 := G2.lt
    have n0 := G2.cell 0
    have n1 := G2.cell 1
    have n2 := G2.cell 2
    simp at n0 n1 n2
    go_wp2_with fail
    have hk3 := set3_blk G2 (.bool false) (.slice A es.length c) (.slice Q2 kz.length m2)
    have hb3 : Below W1.heap.size W1 _ := set3_below hb2 (g := wb1.heap.size) (hb1.size) (.bool false) (.slice A es.length c) (.slice Q2 kz.length m2)
    have hs3 := Nat.le_of_eq (set3_size wa2 wb1.heap.size (.bool false) (.slice A es.length c) (.slice Q2 kz.length m2)).symm
    unfold set3 at hk3 hb3 hs3
    clear f0 f1 f2 l0 n0 n1 n2
    generalize ((wa2.setCell ⟨wb1.heap.size, 0, none⟩ (.bool false)).setCell ⟨wb1.heap.size, 1, none⟩ (.slice A es.length c)).setCell ⟨wb1.heap.size, 2, none⟩ (.slice Q2 kz.length m2) = wb3 at hk3 hb3 hs3 ⊢
    refine hK.out _ _ (fun _ => hb3) ?_
    clear hK K'
    try simp only [Act.put, List.setIfInBounds_toArray, List.set_cons_zero, List.set_cons_succ]
    refine mix.D_op (k := 17) rfl rfl (by kernel_rfl) (fun K' hK => ?_)
    simp only [List.getElem_toArray, List.getElem_cons_zero, List.getElem_cons_succ]
    go_wp2_with fail
    refine hK.out _ _ (fun h => by simp at h) ?_
    clear hK K'
    refine mix.D_done (by kernel_rfl) ?_ _
    try simp only [Act.put, List.getElem_toArray, List.getElem_cons_zero, List.getElem_cons_succ, List.setIfInBounds_toArray, List.set_cons_zero, List.set_cons_succ]
    have z0 := hk3.cell 0
    simp at z0
    have d9 : (k != 0) = true := by simp [bne, beq_eq_false_iff_ne.2 hk0]
    skip
    have bZ := bW.trans ((I9.trans (hb3.mono I9.size)).mono bW.size)
    go_wp2_with fail
    refine bodyPost_ret (v := .int .i64 k) (by simp [results, Try.results87, go_sem]) rfl ⟨rfl, bZ⟩
  · simp only [List.getElem_toArray, List.getElem_cons_zero, List.getElem_cons_succ]
    go_wp2_with fail
    have hs5 : Below W1d.heap.size W1d (W1d.alloc (.cells #[.bool false, .slice none 0 0, .slice none 0 0] 60)) := (Below.refl _ _).alloc (Nat.le_refl _) _
    have G5 := Blk.new W1d 60 #[.bool false, .slice none 0 0, .slice none 0 0]
    have hsz5 : W1d.heap.size < (W1d.alloc (.cells #[.bool false, .slice none 0 0, .slice none 0 0] 60)).heap.size := by simp
    have hg5 := vers.lay (rfl : W1d.heap.size = W1d.heap.size)
    generalize W1d.alloc (.cells #[.bool false, .slice none 0 0, .slice none 0 0] 60) = wa5 at hs5 G5 hsz5 ⊢
    have hb5 : Below W1.heap.size W1 wa5 := hS0.trans (hs5.mono hS0.size)
    refine hK.out _ _ (fun _ => hb5) ?_
    clear hK K'
    try simp only [Act.put, List.setIfInBounds_toArray, List.set_cons_zero, List.set_cons_succ]
    refine mix.D_op (k := 11) rfl rfl (by kernel_rfl) (fun K' hK => ?_)
    simp only [List.getElem_toArray, List.getElem_cons_zero, List.getElem_cons_succ]
    go_wp2_with fail
    refine (HP.out _ (bW.trans ((I9.trans (hb5.mono I9.size)).mono bW.size))).mono ?_
    rintro e wb6 ⟨hs6, he6⟩
    obtain ⟨es, kz, A, c, Q2, m2, he6⟩ : ∃ es kz A c Q2 m2, e = .returned (.tuple #[(⟨false, es, kz, A, c, Q2, m2⟩ : N).val, .int .i64 k]) := ⟨[], [], none, 0, none, 0, he6⟩
    subst he6
    have G6 := G5.below hs6 G5.lt
    have hb6 : Below W1.heap.size W1 wb6 := hb5.trans (hs6.mono hb5.size)
    refine hK.out _ _ (fun _ => hb6) ?_
    clear hK K'
    try simp only [Act.put, List.setIfInBounds_toArray, List.set_cons_zero, List.set_cons_succ]
    refine mix.D_take (i := 12) (v := ?_) rfl (by kernel_rfl) (by kernel_rfl) (fun _ _ _ h => h) (Or.inl ⟨by rfl, ?_⟩) hb6 ?_
    rotate_left
    · intro w' hSw
      have y0 := (hSw.cell (p := ⟨w.heap.size, 0, none⟩) lC1).trans rc
      have y1 := (hSw.cell (p := ⟨wb, o + 2, none⟩) lW1).trans b2
      have y2 := (hSw.cell (p := ⟨bk, off + (j) * 5 + 1, none⟩) lK1).trans r1
      have y3 := (hSw.cell (p := ⟨bk, off + (j) * 5 + 2, none⟩) lK1).trans r2
      have y4 := (hSw.cell (p := ⟨bk, off + (j) * 5 + 3, none⟩) lK1).trans r3
      have y5 := (hSw.cell (p := ⟨bk, off + (j) * 5 + 4, none⟩) lK1).trans r4
      try simp only [List.getElem_toArray, List.getElem_cons_zero, List.getElem_cons_succ]
      go_simp
      exact rfl
    try simp only [Act.put, List.setIfInBounds_toArray, List.set_cons_zero, List.set_cons_succ, List.getElem_toArray, List.getElem_cons_zero, List.getElem_cons_succ]
    refine mix.D_take (i := 13) (v := ?_) rfl (by kernel_rfl) (by kernel_rfl) (fun _ _ _ h => h) (Or.inl ⟨by rfl, ?_⟩) hb6 ?_
    rotate_left
    · intro w' hSw
      have y0 := (hSw.cell (p := ⟨w.heap.size, 0, none⟩) lC1).trans rc
      have y1 := (hSw.cell (p := ⟨wb, o + 2, none⟩) lW1).trans b2
      have y2 := (hSw.cell (p := ⟨bk, off + (j) * 5 + 1, none⟩) lK1).trans r1
      have y3 := (hSw.cell (p := ⟨bk, off + (j) * 5 + 2, none⟩) lK1).trans r2
      have y4 := (hSw.cell (p := ⟨bk, off + (j) * 5 + 3, none⟩) lK1).trans r3
      have y5 := (hSw.cell (p := ⟨bk, off + (j) * 5 + 4, none⟩) lK1).trans r4
      try simp only [List.getElem_toArray, List.getElem_cons_zero, List.getElem_cons_succ]
      go_simp
      exact rfl
    try simp only [Act.put, List.setIfInBounds_toArray, List.set_cons_zero, List.set_cons_succ, List.getElem_toArray, List.getElem_cons_zero, List.getElem_cons_succ]
    refine mix.D_take (i := 14) (v := ?_) rfl (by kernel_rfl) (by kernel_rfl) (fun _ _ _ h => h) (Or.inl ⟨by rfl, ?_⟩) hb6 ?_
    rotate_left
    · intro w' hSw
      have y0 := (hSw.cell (p := ⟨w.heap.size, 0, none⟩) lC1).trans rc
      have y1 := (hSw.cell (p := ⟨wb, o + 2, none⟩) lW1).trans b2
      have y2 := (hSw.cell (p := ⟨bk, off + (j) * 5 + 1, none⟩) lK1).trans r1
      have y3 := (hSw.cell (p := ⟨bk, off + (j) * 5 + 2, none⟩) lK1).trans r2
      have y4 := (hSw.cell (p := ⟨bk, off + (j) * 5 + 3, none⟩) lK1).trans r3
      have y5 := (hSw.cell (p := ⟨bk, off + (j) * 5 + 4, none⟩) lK1).trans r4
      try simp only [List.getElem_toArray, List.getElem_cons_zero, List.getElem_cons_succ]
      go_simp
      exact rfl
    try simp only [Act.put, List.setIfInBounds_toArray, List.set_cons_zero, List.set_cons_succ, List.getElem_toArray, List.getElem_cons_zero, List.getElem_cons_succ]
    refine mix.D_op (k := 16) rfl rfl (by kernel_rfl) (fun K' hK => ?_)
    simp only [List.getElem_toArray, List.getElem_cons_zero, List.getElem_cons_succ]
    have f0 := G6.frozen 0
    have f1 := G6.frozen 1
    have f2 := G6.frozen 2
    have l0 := G6.lt
    have n0 := G6.cell 0
    have n1 := G6.cell 1
    have n2 := G6.cell 2
    simp at n0 n1 n2
    go_wp2_with fail
    have hk7 := set3_blk G6 (.bool false) (.slice A es.length c) (.slice Q2 kz.length m2)
    have hb7 : Below W1.heap.size W1 _ := set3_below hb6 (g := W1d.heap.size) (hS0.size) (.bool false) (.slice A es.length c) (.slice Q2 kz.length m2)
    have hs7 := Nat.le_of_eq (set3_size wb6 W1d.heap.size (.bool false) (.slice A es.length c) (.slice Q2 kz.length m2)).symm
    unfold set3 at hk7 hb7 hs7
    clear f0 f1 f2 l0 n0 n1 n2
    generalize ((wb6.setCell ⟨W1d.heap.size, 0, none⟩ (.bool false)).setCell ⟨W1d.heap.size, 1, none⟩ (.slice A es.length c)).setCell ⟨W1d.heap.size, 2, none⟩ (.slice Q2 kz.length m2) = wb7 at hk7 hb7 hs7 ⊢
    refine hK.out _ _ (fun _ => hb7) ?_
    clear hK K'
    try simp only [Act.put, List.setIfInBounds_toArray, List.set_cons_zero, List.set_cons_succ]
    refine mix.D_op (k := 17) rfl rfl (by kernel_rfl) (fun K' hK => ?_)
    simp only [List.getElem_toArray, List.getElem_cons_zero, List.getElem_cons_succ]
    go_wp2_with fail
    refine hK.out _ _ (fun h => by simp at h) ?_
    clear hK K'
    refine mix.D_done (by kernel_rfl) ?_ _
    try simp only [Act.put, List.getElem_toArray, List.getElem_cons_zero, List.getElem_cons_succ, List.setIfInBounds_toArray, List.set_cons_zero, List.set_cons_succ]
    have z0 := hk7.cell 0
    simp at z0
    have d9 : (k != 0) = true := by simp [bne, beq_eq_false_iff_ne.2 hk0]
    skip
    have bZ := bW.trans ((I9.trans (hb7.mono I9.size)).mono bW.size)
    go_wp2_with fail
    refine bodyPost_ret (v := .int .i64 k) (by simp [results, Try.results87, go_sem]) rfl ⟨rfl, bZ⟩

/-- what beside leaves -/
def BePost (w : World) (wb o i : Nat) (ks : List K) (b : Bool) (r : Except Int (List P3 × List P3)) (e : Ending) (w' : World) : Prop :=
  (∃ k, r = .error k ∧ k ≠ 0 ∧ BnPost w k e w') ∨ (r = .ok ([], []) ∧ BnPost w 0 e w') ∨ (∃ n, r = .ok ([], [n]) ∧ n.1 = b ∧ i + 1 < ks.length ∧ BsPost w wb (o + 5) n e w') ∨ (∃ n, r = .ok ([n], []) ∧ n.1 = b ∧ ¬ i + 1 < ks.length ∧ BsPost w wb (o + 4) n e w')
theorem beside_any (h : Nat) (S : Nat → Prop) (ns : List P3) (wb o i d : Nat) (ks : List K) (Q : Option Addr) (m : Nat) (b : Bool) (F : Nat → Prop) (u4 u5 : Value) (w : World) (hh : Hp w h S ns) (hK : KsF w F ks Q m) (hF : ∀ g, F g → g < w.heap.size) (hwb : wb < w.heap.size)
    (c2 : w.cell? ⟨wb, o + 2, none⟩ = some (.slice Q ks.length m)) (c3 : w.cell? ⟨wb, o + 3, none⟩ = some (.int .i64 (i : Int))) (c4 : w.cell? ⟨wb, o + 4, none⟩ = some u4) (c5 : w.cell? ⟨wb, o + 5, none⟩ = some u5) (f4 : w.frozen? ⟨wb, o + 4, none⟩ = false) (f5 : w.frozen? ⟨wb, o + 5, none⟩ = false)
    (hi : i < ks.length) (h2 : 1 < ks.length) (hl : ks.length ≤ 1000) (hd : d < 1000) :
    Calls Try.prog 87 #[clim h, .pointer (some ⟨wb, o, none⟩), .int .i64 (d : Int), .bool b] w (BePost w wb o i ks b (besideP ns ks i d b)) := by
  by_cases hc : i + 1 < ks.length
  · cases hp : pageE ns (ks[i + 1]?.getD zK).r d with
    | error k =>
      have hk : k ≠ 0 := by rcases pageE_err hp with rfl | rfl <;> decide
      have e : besideP ns ks i d b = .error k := by unfold besideP; rw [if_pos hc, hp]
      exact (beside_right_err h S ns wb o i (i + 1) d rfl ks Q m k b hk F u4 u5 w hh hK hF hwb c2 c3 c4 c5 f4 f5 hi h2 hc hl hd hp).mono fun _ _ hq => .inl ⟨k, e, hk, hq⟩
    | ok n =>
      by_cases hb : n.1 = b
      · have e : besideP ns ks i d b = .ok ([], [n]) := by unfold besideP; rw [if_pos hc, hp]; simp only; rw [if_neg (fun h => h hb), if_pos hc]
        exact (beside_right h S ns wb o i (i + 1) d rfl ks Q m n b hb F u4 u5 w hh hK hF hwb c2 c3 c4 c5 f4 f5 hi h2 hc hl hd hp).mono fun _ _ hq => .inr (.inr (.inl ⟨n, e, hb, hc, hq⟩))
      · have e : besideP ns ks i d b = .ok ([], []) := by unfold besideP; rw [if_pos hc, hp]; simp only; rw [if_pos hb]
        exact (beside_right_mis h S ns wb o i (i + 1) d rfl ks Q m n b hb F u4 u5 w hh hK hF hwb c2 c3 c4 c5 f4 f5 hi h2 hc hl hd hp).mono fun _ _ hq => .inr (.inl ⟨e, hq⟩)
  · have hj : i - 1 + 1 = i := by omega
    cases hp : pageE ns (ks[i - 1]?.getD zK).r d with
    | error k =>
      have hk : k ≠ 0 := by rcases pageE_err hp with rfl | rfl <;> decide
      have e : besideP ns ks i d b = .error k := by unfold besideP; rw [if_neg hc, hp]
      exact (beside_left_err h S ns wb o i (i - 1) d hj ks Q m k b hk F u4 u5 w hh hK hF hwb c2 c3 c4 c5 f4 f5 hi h2 hc hl hd hp).mono fun _ _ hq => .inl ⟨k, e, hk, hq⟩
    | ok n =>
      by_cases hb : n.1 = b
      · have e : besideP ns ks i d b = .ok ([n], []) := by unfold besideP; rw [if_neg hc, hp]; simp only; rw [if_neg (fun h => h hb), if_neg hc]
        exact (beside_left h S ns wb o i (i - 1) d hj ks Q m n b hb F u4 u5 w hh hK hF hwb c2 c3 c4 c5 f4 f5 hi h2 hc hl hd hp).mono fun _ _ hq => .inr (.inr (.inr ⟨n, e, hb, hc, hq⟩))
      · have e : besideP ns ks i d b = .ok ([], []) := by unfold besideP; rw [if_neg hc, hp]; simp only; rw [if_pos hb]
        exact (beside_left_mis h S ns wb o i (i - 1) d hj ks Q m n b hb F u4 u5 w hh hK hF hwb c2 c3 c4 c5 f4 f5 hi h2 hc hl hd hp).mono fun _ _ hq => .inr (.inl ⟨e, hq⟩)end Go.Proofs.Ytnndohdiiglgmaa.trees
