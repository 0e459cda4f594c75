/- mayBe and overlap. -/
import Derived.Test.YthmamlghmagmkaaSgE
import Derived.Deep.CutRange


namespace Go.Proofs.Ythmamlghmagmkaa.segs
set_option linter.unusedVariables false
set_option linter.unusedSimpArgs false
open Go.RowKit Go.Shelf Go.Proofs.Ythmamlghmagmkaa.base Go.Proofs.Ythmamlghmagmkaa.trees Go.Proofs.Ythmamlghmagmkaa.powers Go.Proofs.Ythmamlghmagmkaa.mediums Go.Lib

/-- accounts in a row -/
def Ac (w : World) (lo ab c : Nat) (ac : List T3) : Prop := w.ownsRow lo 184 3 (.slice (some ⟨ab, 0, none⟩) ac.length c) ac.length (cellsJ ac)
section
variable {w w' : World} {lo ab c : Nat} {ac : List T3}
theorem Ac.cells (h : Ac w lo ab c ac) {i : Nat} (hi : i < ac.length) : w.cell? ⟨ab, i * 3, none⟩ = some (.int .i64 (at3 ac i).a) ∧ w.cell? ⟨ab, i * 3 + 1, none⟩ = some (.int .i64 (at3 ac i).b) ∧ w.cell? ⟨ab, i * 3 + 2, none⟩ = some (.int .i64 (at3 ac i).c) := by
  obtain ⟨c0, c1, c2⟩ := cellsJ_at ac hi
  rw [at3_eq hi]
  exact ⟨(World.ownsRow.cellAt h _ (by omega)).trans c0, (World.ownsRow.cellAt h _ (by omega)).trans c1, (World.ownsRow.cellAt h _ (by omega)).trans c2⟩
theorem Ac.below (h : Ac w lo ab c ac) (hb : Below w.heap.size w w') : Ac w' lo ab c ac := row_below h hb
theorem Ac.lt (h : Ac w lo ab c ac) : ab < w.heap.size := (World.ownsRow.lt h ab rfl).2
theorem Ac.low (h : Ac w lo ab c ac) : lo ≤ ab := (World.ownsRow.lt h ab rfl).1
theorem Ac.cap (h : Ac w lo ab c ac) : ac.length ≤ c := by
  obtain ⟨_, h1⟩ := h
  rcases h1 with ⟨h1, _⟩ | ⟨g, cap, cur, h1, _, _, hc, _⟩
  · cases h1
  · injection h1 with _ _ h3; subst h3; exact hc
theorem Ac.store (h : Ac w lo ab c ac) (j : Nat) (u : Value) {ac' : List T3} (he : (cellsJ ac).set j u = cellsJ ac') (hl : ac'.length = ac.length) : Ac (w.setCell ⟨ab, j, none⟩ u) lo ab c ac' ∧ Keep (fun k => k = ab) w (w.setCell ⟨ab, j, none⟩ u) := by
  obtain ⟨h1, h2⟩ := World.ownsRow.stored h j u
  rw [he, ← hl] at h1
  exact ⟨h1, grown_keep h2⟩
theorem Ac.keep {T : Nat → Prop} (h : Ac w lo ab c ac) (hk : Keep T w w') (hT : ¬ T ab) : Ac w' lo ab c ac := ownsRow_agree h fun g hg => by cases hg; exact hk.block _ h.lt hT
/-- an own row with something in it -/
theorem ac_shape {v : Value} {n : Nat} (h : w.ownsRow lo 184 3 v n (cellsJ ac)) (hn : n = ac.length) (h1 : 1 ≤ n) : ∃ ab c, v = .slice (some ⟨ab, 0, none⟩) ac.length c ∧ Ac w lo ab c ac := by
  subst hn
  rcases h.2 with ⟨_, h0⟩ | ⟨g, cap, cur, rfl, _⟩
  · omega
  · exact ⟨g, cap, rfl, h⟩

set_option maxRecDepth 100000 in
set_option maxHeartbeats 4000000 in
theorem may_neg (h : Ac w lo ab c ac) (hl : ac.length ≤ 4096) (pa pb pc : Int) (h1 : pa < 0) :
    Calls Try.prog 161 #[.slice (some ⟨ab, 0, none⟩) ac.length c, .agg #[.int .i64 pa, .int .i64 pb, .int .i64 pc]] w fun e w' => e = .returned (.bool false) ∧ Below w.heap.size w w' := by
  have bA : Below w.heap.size w (w.alloc (.cells #[.int .i64 pa, .int .i64 pb, .int .i64 pc] 95)) := (Below.refl _ _).alloc (Nat.le_refl _) _
  have kA := Blk.new w 95 #[.int .i64 pa, .int .i64 pb, .int .i64 pc]
  have hA := h.below bA
  have lA := kA.lt
  obtain ⟨q, hqd⟩ : ∃ q, w.heap.size = q := ⟨_, rfl⟩
  obtain ⟨W, hW⟩ : ∃ W, w.alloc (.cells #[.int .i64 pa, .int .i64 pb, .int .i64 pc] 95) = W := ⟨_, rfl⟩
  rw [hW] at bA kA hA lA
  rw [hqd] at kA lA
  obtain ⟨y0, y1, y2⟩ := kA.c3
  have HB := powers.lay bA
  have d1 : decide (pa < 0) = true := decide_eq_true h1
  clear h1
  clear hA h bA
  generalize ac.length = n at *
  go_enter Try.func161, Try.ntmps161
  go_wp2_with fail
  go_ret
  exact ⟨rfl, HB.out⟩

set_option maxRecDepth 100000 in
set_option maxHeartbeats 4000000 in
theorem may_far (h : Ac w lo ab c ac) (hl : ac.length ≤ 4096) (pa pb pc : Int) (h1 : 0 ≤ pa) (h2 : (ac.length : Int) ≤ pa) :
    Calls Try.prog 161 #[.slice (some ⟨ab, 0, none⟩) ac.length c, .agg #[.int .i64 pa, .int .i64 pb, .int .i64 pc]] w fun e w' => e = .returned (.bool false) ∧ Below w.heap.size w w' := by
  have bA : Below w.heap.size w (w.alloc (.cells #[.int .i64 pa, .int .i64 pb, .int .i64 pc] 95)) := (Below.refl _ _).alloc (Nat.le_refl _) _
  have kA := Blk.new w 95 #[.int .i64 pa, .int .i64 pb, .int .i64 pc]
  have hA := h.below bA
  have lA := kA.lt
  obtain ⟨q, hqd⟩ : ∃ q, w.heap.size = q := ⟨_, rfl⟩
  obtain ⟨W, hW⟩ : ∃ W, w.alloc (.cells #[.int .i64 pa, .int .i64 pb, .int .i64 pc] 95) = W := ⟨_, rfl⟩
  rw [hW] at bA kA hA lA
  rw [hqd] at kA lA
  obtain ⟨y0, y1, y2⟩ := kA.c3
  have HB := powers.lay bA
  have d1 : decide (pa < 0) = false := decide_eq_false (by omega)
  have d2 : decide ((ac.length : Int) ≤ pa) = true := decide_eq_true h2
  clear h1 h2
  clear hA h bA
  generalize ac.length = n at *
  go_enter Try.func161, Try.ntmps161
  go_wp2_with fail
  go_ret
  exact ⟨rfl, HB.out⟩

set_option maxRecDepth 100000 in
set_option maxHeartbeats 4000000 in
theorem may_off (h : Ac w lo ab c ac) (hl : ac.length ≤ 4096) (pa pb pc : Int) (h1 : 0 ≤ pa) (h2 : pa < (ac.length : Int)) (h3 : pb < 0) :
    Calls Try.prog 161 #[.slice (some ⟨ab, 0, none⟩) ac.length c, .agg #[.int .i64 pa, .int .i64 pb, .int .i64 pc]] w fun e w' => e = .returned (.bool false) ∧ Below w.heap.size w w' := by
  have bA : Below w.heap.size w (w.alloc (.cells #[.int .i64 pa, .int .i64 pb, .int .i64 pc] 95)) := (Below.refl _ _).alloc (Nat.le_refl _) _
  have kA := Blk.new w 95 #[.int .i64 pa, .int .i64 pb, .int .i64 pc]
  have hA := h.below bA
  have lA := kA.lt
  obtain ⟨q, hqd⟩ : ∃ q, w.heap.size = q := ⟨_, rfl⟩
  obtain ⟨W, hW⟩ : ∃ W, w.alloc (.cells #[.int .i64 pa, .int .i64 pb, .int .i64 pc] 95) = W := ⟨_, rfl⟩
  rw [hW] at bA kA hA lA
  rw [hqd] at kA lA
  obtain ⟨y0, y1, y2⟩ := kA.c3
  have HB := powers.lay bA
  have d1 : decide (pa < 0) = false := decide_eq_false (by omega)
  have d2 : decide ((ac.length : Int) ≤ pa) = false := decide_eq_false (by omega)
  have d3 : decide (pb < 0) = true := decide_eq_true h3
  clear h1 h2 h3
  clear hA h bA
  generalize ac.length = n at *
  go_enter Try.func161, Try.ntmps161
  go_wp2_with fail
  go_ret
  exact ⟨rfl, HB.out⟩

set_option maxRecDepth 100000 in
set_option maxHeartbeats 4000000 in
theorem may_len (h : Ac w lo ab c ac) (hl : ac.length ≤ 4096) (pa pb pc : Int) (h1 : 0 ≤ pa) (h2 : pa < (ac.length : Int)) (h3 : 0 ≤ pb) (h4 : pc < 1) :
    Calls Try.prog 161 #[.slice (some ⟨ab, 0, none⟩) ac.length c, .agg #[.int .i64 pa, .int .i64 pb, .int .i64 pc]] w fun e w' => e = .returned (.bool false) ∧ Below w.heap.size w w' := by
  have bA : Below w.heap.size w (w.alloc (.cells #[.int .i64 pa, .int .i64 pb, .int .i64 pc] 95)) := (Below.refl _ _).alloc (Nat.le_refl _) _
  have kA := Blk.new w 95 #[.int .i64 pa, .int .i64 pb, .int .i64 pc]
  have hA := h.below bA
  have lA := kA.lt
  obtain ⟨q, hqd⟩ : ∃ q, w.heap.size = q := ⟨_, rfl⟩
  obtain ⟨W, hW⟩ : ∃ W, w.alloc (.cells #[.int .i64 pa, .int .i64 pb, .int .i64 pc] 95) = W := ⟨_, rfl⟩
  rw [hW] at bA kA hA lA
  rw [hqd] at kA lA
  obtain ⟨y0, y1, y2⟩ := kA.c3
  have HB := powers.lay bA
  have d1 : decide (pa < 0) = false := decide_eq_false (by omega)
  have d2 : decide ((ac.length : Int) ≤ pa) = false := decide_eq_false (by omega)
  have d3 : decide (pb < 0) = false := decide_eq_false (by omega)
  have d4 : decide (pc < 1) = true := decide_eq_true h4
  clear h1 h2 h3 h4
  clear hA h bA
  generalize ac.length = n at *
  go_enter Try.func161, Try.ntmps161
  go_wp2_with fail
  go_ret
  exact ⟨rfl, HB.out⟩

set_option maxRecDepth 100000 in
set_option maxHeartbeats 4000000 in
theorem may_in (h : Ac w lo ab c ac) (hl : ac.length ≤ 4096) (j : Nat) (pb pc : Int) (h2 : j < ac.length) (h3 : 0 ≤ pb) (h4 : 1 ≤ pc) (hpb : pb ≤ 9223372036854775807) (hu : 0 ≤ (at3 ac j).b ∧ (at3 ac j).b ≤ 1048576) :
    Calls Try.prog 161 #[.slice (some ⟨ab, 0, none⟩) ac.length c, .agg #[.int .i64 (j : Int), .int .i64 pb, .int .i64 pc]] w fun e w' => e = .returned (.bool (decide (pc ≤ (at3 ac j).b - pb))) ∧ Below w.heap.size w w' := by
  have bA : Below w.heap.size w (w.alloc (.cells #[.int .i64 (j : Int), .int .i64 pb, .int .i64 pc] 95)) := (Below.refl _ _).alloc (Nat.le_refl _) _
  have kA := Blk.new w 95 #[.int .i64 (j : Int), .int .i64 pb, .int .i64 pc]
  have hA := h.below bA
  have lA := kA.lt
  obtain ⟨q, hqd⟩ : ∃ q, w.heap.size = q := ⟨_, rfl⟩
  obtain ⟨W, hW⟩ : ∃ W, w.alloc (.cells #[.int .i64 (j : Int), .int .i64 pb, .int .i64 pc] 95) = W := ⟨_, rfl⟩
  rw [hW] at bA kA hA lA
  rw [hqd] at kA lA
  obtain ⟨y0, y1, y2⟩ := kA.c3
  have HB := powers.lay bA
  have d1 : decide ((j : Int) < 0) = false := decide_eq_false (by omega)
  have d2 : decide ((ac.length : Int) ≤ (j : Int)) = false := decide_eq_false (by omega)
  have d2' : decide (ac.length ≤ j) = false := decide_eq_false (by omega)
  have d3 : decide (pb < 0) = false := decide_eq_false (by omega)
  have d4 : decide (pc < 1) = false := decide_eq_false (by omega)
  have v1 := (hA.cells h2).2.1
  have l1 := hA.lt
  have hcap := hA.cap
  have ew : IntKind.i64.wrap ((at3 ac j).b - pb) = (at3 ac j).b - pb := IntWalk.i64_in _ (by omega)
  generalize (at3 ac j).b = u at *
  generalize ac.length = n at *
  clear hA h
  go_enter Try.func161, Try.ntmps161
  go_upto_region 3 with (fail)
  have hS0 : Below W.heap.size W W.drew := (Below.refl _ _).drew
  refine mix.region_D (fun w' => Below W.heap.size W w') (fun _ => false) (by kernel_rfl) ?_
  generalize W.drew = wd at hS0 ⊢
  refine mix.D_take (i := 0) (v := ?_) rfl (by kernel_rfl) (by kernel_rfl) (fun _ _ _ h => h) (Or.inl ⟨by first | rfl | simp [Region.wanted, yielded], ?_⟩) hS0 ?_
  rotate_left
  · intro w' hSw
    have z0 := (hSw.cell (p := ⟨q, 0, none⟩) lA).trans y0
    have z1 := (hSw.cell (p := ⟨q, 1, none⟩) lA).trans y1
    have z2 := (hSw.cell (p := ⟨q, 2, none⟩) lA).trans y2
    have z3 := (hSw.cell (p := ⟨ab, j * 3 + 1, none⟩) l1).trans v1
    try simp only [List.getElem_toArray, List.getElem_cons_zero, List.getElem_cons_succ]
    go_simp
    exact rfl
  try simp only [Act.put, List.setIfInBounds_toArray, List.set_cons_zero, List.set_cons_succ, List.getElem_toArray, List.getElem_cons_zero, List.getElem_cons_succ]
  refine mix.D_take (i := 1) (v := ?_) rfl (by kernel_rfl) (by kernel_rfl) (fun _ _ _ h => h) (Or.inl ⟨by first | rfl | simp [Region.wanted, yielded], ?_⟩) hS0 ?_
  rotate_left
  · intro w' hSw
    have z0 := (hSw.cell (p := ⟨q, 0, none⟩) lA).trans y0
    have z1 := (hSw.cell (p := ⟨q, 1, none⟩) lA).trans y1
    have z2 := (hSw.cell (p := ⟨q, 2, none⟩) lA).trans y2
    have z3 := (hSw.cell (p := ⟨ab, j * 3 + 1, none⟩) l1).trans v1
    try simp only [List.getElem_toArray, List.getElem_cons_zero, List.getElem_cons_succ]
    go_simp
    exact rfl
  try simp only [Act.put, List.setIfInBounds_toArray, List.set_cons_zero, List.set_cons_succ, List.getElem_toArray, List.getElem_cons_zero, List.getElem_cons_succ]
  refine mix.D_take (i := 2) (v := ?_) rfl (by kernel_rfl) (by kernel_rfl) (fun _ _ _ h => h) (Or.inl ⟨by first | rfl | simp [Region.wanted, yielded], ?_⟩) hS0 ?_
  rotate_left
  · intro w' hSw
    have z0 := (hSw.cell (p := ⟨q, 0, none⟩) lA).trans y0
    have z1 := (hSw.cell (p := ⟨q, 1, none⟩) lA).trans y1
    have z2 := (hSw.cell (p := ⟨q, 2, none⟩) lA).trans y2
    have z3 := (hSw.cell (p := ⟨ab, j * 3 + 1, none⟩) l1).trans v1
    try simp only [List.getElem_toArray, List.getElem_cons_zero, List.getElem_cons_succ]
    go_simp
    exact rfl
  try simp only [Act.put, List.setIfInBounds_toArray, List.set_cons_zero, List.set_cons_succ, List.getElem_toArray, List.getElem_cons_zero, List.getElem_cons_succ]
  refine mix.D_take (i := 3) (v := ?_) rfl (by kernel_rfl) (by kernel_rfl) (fun _ _ _ h => h) (Or.inl ⟨by first | rfl | simp [Region.wanted, yielded], ?_⟩) hS0 ?_
  rotate_left
  · intro w' hSw
    have z0 := (hSw.cell (p := ⟨q, 0, none⟩) lA).trans y0
    have z1 := (hSw.cell (p := ⟨q, 1, none⟩) lA).trans y1
    have z2 := (hSw.cell (p := ⟨q, 2, none⟩) lA).trans y2
    have z3 := (hSw.cell (p := ⟨ab, j * 3 + 1, none⟩) l1).trans v1
    try simp only [List.getElem_toArray, List.getElem_cons_zero, List.getElem_cons_succ]
    go_simp
    exact rfl
  try simp only [Act.put, List.setIfInBounds_toArray, List.set_cons_zero, List.set_cons_succ, List.getElem_toArray, List.getElem_cons_zero, List.getElem_cons_succ]
  refine mix.D_take (i := 4) (v := ?_) rfl (by kernel_rfl) (by kernel_rfl) (fun _ _ _ h => h) (Or.inl ⟨by first | rfl | simp [Region.wanted, yielded], ?_⟩) hS0 ?_
  rotate_left
  · intro w' hSw
    have z0 := (hSw.cell (p := ⟨q, 0, none⟩) lA).trans y0
    have z1 := (hSw.cell (p := ⟨q, 1, none⟩) lA).trans y1
    have z2 := (hSw.cell (p := ⟨q, 2, none⟩) lA).trans y2
    have z3 := (hSw.cell (p := ⟨ab, j * 3 + 1, none⟩) l1).trans v1
    try simp only [List.getElem_toArray, List.getElem_cons_zero, List.getElem_cons_succ]
    go_simp
    exact rfl
  try simp only [Act.put, List.setIfInBounds_toArray, List.set_cons_zero, List.set_cons_succ, List.getElem_toArray, List.getElem_cons_zero, List.getElem_cons_succ]
  refine mix.D_take (i := 5) (v := ?_) rfl (by kernel_rfl) (by kernel_rfl) (fun _ _ _ h => h) (Or.inl ⟨by first | rfl | simp [Region.wanted, yielded], ?_⟩) hS0 ?_
  rotate_left
  · intro w' hSw
    have z0 := (hSw.cell (p := ⟨q, 0, none⟩) lA).trans y0
    have z1 := (hSw.cell (p := ⟨q, 1, none⟩) lA).trans y1
    have z2 := (hSw.cell (p := ⟨q, 2, none⟩) lA).trans y2
    have z3 := (hSw.cell (p := ⟨ab, j * 3 + 1, none⟩) l1).trans v1
    try simp only [List.getElem_toArray, List.getElem_cons_zero, List.getElem_cons_succ]
    go_simp
    exact rfl
  try simp only [Act.put, List.setIfInBounds_toArray, List.set_cons_zero, List.set_cons_succ, List.getElem_toArray, List.getElem_cons_zero, List.getElem_cons_succ]
  refine mix.D_take (i := 6) (v := ?_) rfl (by kernel_rfl) (by kernel_rfl) (fun _ _ _ h => h) (Or.inl ⟨by first | rfl | simp [Region.wanted, yielded], ?_⟩) hS0 ?_
  rotate_left
  · intro w' hSw
    have z0 := (hSw.cell (p := ⟨q, 0, none⟩) lA).trans y0
    have z1 := (hSw.cell (p := ⟨q, 1, none⟩) lA).trans y1
    have z2 := (hSw.cell (p := ⟨q, 2, none⟩) lA).trans y2
    have z3 := (hSw.cell (p := ⟨ab, j * 3 + 1, none⟩) l1).trans v1
    try simp only [List.getElem_toArray, List.getElem_cons_zero, List.getElem_cons_succ]
    go_simp
    exact rfl
  try simp only [Act.put, List.setIfInBounds_toArray, List.set_cons_zero, List.set_cons_succ, List.getElem_toArray, List.getElem_cons_zero, List.getElem_cons_succ]
  refine mix.D_take (i := 7) (v := ?_) rfl (by kernel_rfl) (by kernel_rfl) (fun _ _ _ h => h) (Or.inl ⟨by first | rfl | simp [Region.wanted, yielded], ?_⟩) hS0 ?_
  rotate_left
  · intro w' hSw
    have z0 := (hSw.cell (p := ⟨q, 0, none⟩) lA).trans y0
    have z1 := (hSw.cell (p := ⟨q, 1, none⟩) lA).trans y1
    have z2 := (hSw.cell (p := ⟨q, 2, none⟩) lA).trans y2
    have z3 := (hSw.cell (p := ⟨ab, j * 3 + 1, none⟩) l1).trans v1
    try simp only [List.getElem_toArray, List.getElem_cons_zero, List.getElem_cons_succ]
    go_simp
    exact rfl
  try simp only [Act.put, List.setIfInBounds_toArray, List.set_cons_zero, List.set_cons_succ, List.getElem_toArray, List.getElem_cons_zero, List.getElem_cons_succ]
  refine mix.D_take (i := 8) (v := ?_) rfl (by kernel_rfl) (by kernel_rfl) (fun _ _ _ h => h) (Or.inl ⟨by first | rfl | simp [Region.wanted, yielded], ?_⟩) hS0 ?_
  rotate_left
  · intro w' hSw
    have z0 := (hSw.cell (p := ⟨q, 0, none⟩) lA).trans y0
    have z1 := (hSw.cell (p := ⟨q, 1, none⟩) lA).trans y1
    have z2 := (hSw.cell (p := ⟨q, 2, none⟩) lA).trans y2
    have z3 := (hSw.cell (p := ⟨ab, j * 3 + 1, none⟩) l1).trans v1
    try simp only [List.getElem_toArray, List.getElem_cons_zero, List.getElem_cons_succ]
    go_simp
    exact rfl
  try simp only [Act.put, List.setIfInBounds_toArray, List.set_cons_zero, List.set_cons_succ, List.getElem_toArray, List.getElem_cons_zero, List.getElem_cons_succ]
  refine mix.D_take (i := 9) (v := ?_) rfl (by kernel_rfl) (by kernel_rfl) (fun _ _ _ h => h) (Or.inl ⟨by first | rfl | simp [Region.wanted, yielded], ?_⟩) hS0 ?_
  rotate_left
  · intro w' hSw
    have z0 := (hSw.cell (p := ⟨q, 0, none⟩) lA).trans y0
    have z1 := (hSw.cell (p := ⟨q, 1, none⟩) lA).trans y1
    have z2 := (hSw.cell (p := ⟨q, 2, none⟩) lA).trans y2
    have z3 := (hSw.cell (p := ⟨ab, j * 3 + 1, none⟩) l1).trans v1
    try simp only [List.getElem_toArray, List.getElem_cons_zero, List.getElem_cons_succ]
    go_simp
    exact rfl
  try simp only [Act.put, List.setIfInBounds_toArray, List.set_cons_zero, List.set_cons_succ, List.getElem_toArray, List.getElem_cons_zero, List.getElem_cons_succ]
  refine mix.D_take (i := 10) (v := ?_) rfl (by kernel_rfl) (by kernel_rfl) (fun _ _ _ h => h) (Or.inl ⟨by first | rfl | simp [Region.wanted, yielded], ?_⟩) hS0 ?_
  rotate_left
  · intro w' hSw
    have z0 := (hSw.cell (p := ⟨q, 0, none⟩) lA).trans y0
    have z1 := (hSw.cell (p := ⟨q, 1, none⟩) lA).trans y1
    have z2 := (hSw.cell (p := ⟨q, 2, none⟩) lA).trans y2
    have z3 := (hSw.cell (p := ⟨ab, j * 3 + 1, none⟩) l1).trans v1
    try simp only [List.getElem_toArray, List.getElem_cons_zero, List.getElem_cons_succ]
    go_simp
    exact rfl
  try simp only [Act.put, List.setIfInBounds_toArray, List.set_cons_zero, List.set_cons_succ, List.getElem_toArray, List.getElem_cons_zero, List.getElem_cons_succ]
  refine mix.D_take (i := 11) (v := ?_) rfl (by kernel_rfl) (by kernel_rfl) (fun _ _ _ h => h) (Or.inl ⟨by first | rfl | simp [Region.wanted, yielded], ?_⟩) hS0 ?_
  rotate_left
  · intro w' hSw
    have z0 := (hSw.cell (p := ⟨q, 0, none⟩) lA).trans y0
    have z1 := (hSw.cell (p := ⟨q, 1, none⟩) lA).trans y1
    have z2 := (hSw.cell (p := ⟨q, 2, none⟩) lA).trans y2
    have z3 := (hSw.cell (p := ⟨ab, j * 3 + 1, none⟩) l1).trans v1
    try simp only [List.getElem_toArray, List.getElem_cons_zero, List.getElem_cons_succ]
    go_simp
    exact rfl
  try simp only [Act.put, List.setIfInBounds_toArray, List.set_cons_zero, List.set_cons_succ, List.getElem_toArray, List.getElem_cons_zero, List.getElem_cons_succ]
  refine mix.D_take (i := 12) (v := ?_) rfl (by kernel_rfl) (by kernel_rfl) (fun _ _ _ h => h) (Or.inl ⟨by first | rfl | simp [Region.wanted, yielded], ?_⟩) hS0 ?_
  rotate_left
  · intro w' hSw
    have z0 := (hSw.cell (p := ⟨q, 0, none⟩) lA).trans y0
    have z1 := (hSw.cell (p := ⟨q, 1, none⟩) lA).trans y1
    have z2 := (hSw.cell (p := ⟨q, 2, none⟩) lA).trans y2
    have z3 := (hSw.cell (p := ⟨ab, j * 3 + 1, none⟩) l1).trans v1
    try simp only [List.getElem_toArray, List.getElem_cons_zero, List.getElem_cons_succ]
    go_simp
    exact rfl
  try simp only [Act.put, List.setIfInBounds_toArray, List.set_cons_zero, List.set_cons_succ, List.getElem_toArray, List.getElem_cons_zero, List.getElem_cons_succ]
  refine mix.D_done (by kernel_rfl) ?_ _
  try simp only [Act.put, List.setIfInBounds_toArray, List.set_cons_zero, List.set_cons_succ, List.getElem_toArray, List.getElem_cons_zero, List.getElem_cons_succ]
  go_wp2_with fail
  go_ret
  exact ⟨rfl, HB.out.trans (hS0.mono HB.out.size)⟩
theorem may_any (h : Ac w lo ab c ac) (hl : ac.length ≤ 4096) (hu : ∀ i, i < ac.length → 0 ≤ (at3 ac i).b ∧ (at3 ac i).b ≤ 1048576) (p : T3) (hp : (-9223372036854775808 ≤ p.a ∧ p.a ≤ 9223372036854775807) ∧ (-9223372036854775808 ≤ p.b ∧ p.b ≤ 9223372036854775807) ∧ (-9223372036854775808 ≤ p.c ∧ p.c ≤ 9223372036854775807)) :
    Calls Try.prog 161 #[.slice (some ⟨ab, 0, none⟩) ac.length c, p.v] w fun e w' => e = .returned (.bool (mayB ac p)) ∧ Below w.heap.size w w' := by
  have hno : ∀ {e : Ending} {w' : World}, mayB ac p ≠ true → (e = .returned (.bool false) ∧ Below w.heap.size w w') → (e = .returned (.bool (mayB ac p)) ∧ Below w.heap.size w w') := fun hm ⟨h1, h2⟩ => ⟨by rw [h1, Bool.eq_false_iff.2 hm], h2⟩
  obtain ⟨pa, pb, pc⟩ := p
  simp only at hp
  by_cases h1 : pa < 0
  · exact (may_neg h hl pa pb pc h1).mono fun e w' hh => hno (fun hm => by rw [mayB_iff] at hm; simp only at hm; omega) hh
  · by_cases h2 : (ac.length : Int) ≤ pa
    · exact (may_far h hl pa pb pc (by omega) h2).mono fun e w' hh => hno (fun hm => by rw [mayB_iff] at hm; simp only at hm; omega) hh
    · by_cases h3 : pb < 0
      · exact (may_off h hl pa pb pc (by omega) (by omega) h3).mono fun e w' hh => hno (fun hm => by rw [mayB_iff] at hm; simp only at hm; omega) hh
      · by_cases h4 : pc < 1
        · exact (may_len h hl pa pb pc (by omega) (by omega) (by omega) h4).mono fun e w' hh => hno (fun hm => by rw [mayB_iff] at hm; simp only at hm; omega) hh
        · obtain ⟨j, rfl⟩ := Int.eq_ofNat_of_zero_le (show 0 ≤ pa by omega)
          refine (may_in h hl j pb pc (by omega) (by omega) (by omega) hp.2.1.2 (hu j (by omega))).mono fun e w' ⟨a, b⟩ => ⟨?_, b⟩
          rw [a]
          congr 2
          unfold mayB
          rw [decide_eq_decide]
          simp only [Int.toNat_natCast]
          constructor
          · intro hh; exact ⟨by omega, by omega, by omega, hh⟩
          · intro hh; exact hh.2.2.2
end

theorem pair_perm {ps qs : List T3} (h : qs.Perm ps) : qs.Pairwise Disj ↔ ps.Pairwise Disj := h.pairwise_iff fun h => Disj.symm h
/-- the sort of a row of places of the call's own -/
theorem sort_ok {lo n : Nat} {v : Value} {ps : List T3} {w : World} (h : w.ownsRow lo 95 3 v n (cellsJ ps)) (hn : n = ps.length) (hlo : lo ≤ w.heap.size) (hmax : ps.length ≤ 140737488355328) :
    Calls Try.prog 191 #[v, .func (.func 192) #[] #[]] w fun e w' => e = .returned (.tuple #[]) ∧ Below lo w w' ∧ ∃ qs : List T3, qs.Perm ps ∧ (∀ i j, i < j → j < qs.length → ¬ (cfT (at3 qs j) (at3 qs i) < 0)) ∧ ∃ A c, v = .slice A n c ∧ n ≤ c ∧ Rd w' w'.heap.size A (cellsJ qs) := by
  subst hn
  by_cases h0 : ps.length = 0
  · obtain rfl := List.eq_nil_of_length_eq_zero h0
    obtain ⟨A, c, rfl, hc, _⟩ := row_rdF h
    exact (AnyF.slices_SortFunc_none Try.sortPl A c _ w).mono fun e w' ⟨h1, h2⟩ => ⟨h1, h2 ▸ Below.refl _ _, [], List.Perm.refl _, (fun i j _ hj => by cases hj), A, c, rfl, hc, Rd.nil _ _ _⟩
  · rcases h.2 with ⟨_, h1⟩ | ⟨g, cap, cur, rfl, hg, hb, hc, _⟩
    · exact absurd h1 h0
    · have hH := holds_of_row h rfl
      have eg : ∀ args w, (callFunc 192 args).run Try.prog w = .ok (.enter 192 args) w := enters_of Try.func192 (by kernel_rfl) rfl
      have hlt : g < w.heap.size := (h.lt g rfl).2
      have hcon := AnyQ.slices_SortFunc Try.sortPl 3 Try.isAgg95 Try.sizeOf95 T3.cells (fun _ => rfl) (fun x v hv => by simp [T3.cells] at hv; rcases hv with rfl | rfl | rfl <;> rfl) cfT swoT 192 #[] g 0 cap ps.toArray w eg (fun m os dk _ x y => closure_ok x y _) hH hlt (by simp; omega)
      refine hcon.mono ?_
      rintro e w' ⟨h1, d', m, os, hp, hs, rfl⟩
      obtain ⟨hp1, _, hp3⟩ := hp
      have hsz : d'.size = ps.length := by simpa using hp1
      have e1 : d'.extract 0 ps.toArray.size = d' := by rw [show ps.toArray.size = d'.size by simpa using hsz.symm]; exact Array.extract_size
      have e2 : ps.toArray.extract 0 ps.toArray.size = ps.toArray := Array.extract_size
      rw [e1, e2] at hp3
      refine ⟨h1, below_sort hg hlo, d'.toList, by simpa using hp3, fun i j hij hj => ?_, _, cap, rfl, hc, ?_⟩
      · have hj' : j < d'.size := by simpa using hj
        have := hs i j (Nat.zero_le _) hij (by simpa [hsz] using hj')
        rw [at3_arr d' hj', at3_arr d' (by omega)] at this
        unfold ltOf at this
        simpa using this
      · have hH2 := holdsK_sortWorldK_c T3.cells 3 w g 0 ps.toArray d' m os hH hlt (by simpa using hsz)
        intro j u hj
        have hjl : j < d'.toList.length * 3 := by rw [← cellsJ_len]; exact (List.getElem?_eq_some_iff.1 hj).1
        have hjs : j < (Go.Sort.flatK T3.cells 3 d').size := by simpa using hjl
        have hc2 := (hH2 j hjs).1
        have e4 : (Go.Sort.flatK T3.cells 3 d').toList = cellsJ d'.toList := by have := flat_cells d'.toList; simpa using this
        have e5 : (Go.Sort.flatK T3.cells 3 d')[j]! = u := by
          rw [getElem!_pos _ j hjs]
          rw [← e4, Array.getElem?_toList, Array.getElem?_eq_getElem hjs] at hj
          exact Option.some.inj hj
        refine ⟨g, 0, rfl, Nat.lt_of_lt_of_le hlt (size_sortWorldK_c T3.cells 3 w g 0 m d' os), ?_⟩
        rw [hc2, e5]; rfl

set_option maxRecDepth 100000 in
set_option maxHeartbeats 4000000 in
theorem overlap_ok (ps : List T3) (A : Option Addr) (c : Nat) (F : Nat → Prop) (w : World) (hr : RdF w F A (cellsJ ps)) (hA : A = none → c = 0) (hc : ps.length ≤ c) (hl : ps.length * 24 ≤ 140737488355328) (hb : ∀ p ∈ ps, 0 ≤ p.b ∧ 1 ≤ p.c ∧ p.b + p.c ≤ 1099511627776) :
    Calls Try.prog 162 #[.slice A ps.length c] w fun e w' => e = .returned (.bool (!decide (ps.Pairwise Disj))) ∧ Below w.heap.size w w' := by
  have c1 := cloneP_any A ps.length c (cellsJ ps) F w (cellsJ_len ps) hr (fun h => by have := hA h; omega) (cellsJ_one ps) hl
  have hbb : Hid (∀ p ∈ ps, 0 ≤ p.b ∧ 1 ≤ p.c ∧ p.b + p.c ≤ 1099511627776) := hb
  have hn1 : ps.length ≤ 140737488355328 := by omega
  obtain ⟨R, hR⟩ : ∃ R, (!decide (ps.Pairwise Disj)) = R := ⟨_, rfl⟩
  have HR := powers.lay hR
  have HR' := powers.lay hr
  rw [hR]
  clear hr hb hR hl
  obtain ⟨n, hn⟩ : ∃ n, ps.length = n := ⟨_, rfl⟩
  have HN := powers.lay hn
  rw [hn] at c1 hn1 hc ⊢
  clear hn
  go_enter Try.func162, Try.ntmps162
  go_wp2_with fail
  refine c1.mono ?_
  rintro e w1 ⟨v, rfl, ho, b1⟩
  clear c1
  have c2 := sort_ok ho HN.out.symm b1.size (by rw [HN.out]; exact hn1)
  obtain ⟨A1, c1, rfl, hc1, _⟩ := row_rdF ho
  go_wp2_with fail
  refine c2.mono ?_
  rintro e w2 ⟨rfl, b2, qs, hperm, hsort, A2, c2, hv, hc2, hrd⟩
  injection hv with hv1 _ hv2
  subst hv1 hv2
  have hql : qs.length = n := hperm.length_eq.trans HN.out
  have hqb : ∀ p ∈ qs, 0 ≤ p.b ∧ 1 ≤ p.c ∧ p.b + p.c ≤ 1099511627776 := fun p hp => hbb.out p (hperm.mem_iff.1 hp)
  have hiff := (pair_perm hperm).symm.trans (sorted_disj (fun i j h1 h2 => by have := hsort i j h1 h2; omega) (fun p hp => (hqb p hp).2.1))
  have b02 : Below w.heap.size w w2 := b1.trans b2
  have HQL := powers.lay hql
  have HQB := powers.lay hqb
  have HIF := powers.lay hiff
  have HRD := powers.lay hrd
  have HPR := powers.lay hperm
  clear c2 ho hql hqb hiff hrd hsort hperm b1 b2 hc1
  go_wp2_with fail
  go_loopw [4] (fun i wr => ∃ j : Nat, i = .int .i64 ((j : Int) + 1) ∧ (j = 0 ∨ j + 1 ≤ n) ∧ Below w.heap.size w wr ∧ Hid (Below w2.heap.size w2 wr ∧ ∀ i, i < j → ¬ badN qs i)) (fun i _ => n + 1 - (RowKit.intOf i).toNat)
  case atStart => exact ⟨0, by go_num, .inl rfl, b02, powers.lay ⟨Below.refl _ _, fun i hi => absurd hi (Nat.not_lt_zero _)⟩⟩
  case round =>
    obtain ⟨j, rfl, hj, hb0, HJ⟩ := hrel
    have e1 : IntKind.i64.wrap ((j : Int) + 1 + 1) = (j : Int) + 1 + 1 := IntWalk.i64_in _ (by omega)
    have e2 : IntKind.i64.wrap ((j : Int) + 1 - 1) = (j : Int) := by rw [show (j : Int) + 1 - 1 = (j : Int) by omega]; exact IntWalk.i64_in _ (by omega)
    by_cases hlt : j + 1 < n
    · have hj1 : j + 1 < qs.length := by rw [HQL.out]; exact hlt
      have hj0 : j < qs.length := by omega
      have d0 : decide ((j : Int) + 1 < (n : Int)) = true := decide_eq_true (by omega)
      have d0' : decide (j + 1 < n) = true := decide_eq_true hlt
      have hrw := HRD.out.keep fun _ hp => HJ.out.1.cell hp
      obtain ⟨bk, off, rfl, hbk, x0⟩ := hrw.at_ (k := j * 3) (by rw [cellsJ_len]; omega)
      obtain ⟨_, _, ee, _, x1⟩ := hrw.at_ (k := j * 3 + 1) (by rw [cellsJ_len]; omega)
      cases ee
      obtain ⟨_, _, ee, _, x2⟩ := hrw.at_ (k := j * 3 + 2) (by rw [cellsJ_len]; omega)
      cases ee
      obtain ⟨_, _, ee, _, x3⟩ := hrw.at_ (k := (j + 1) * 3) (by rw [cellsJ_len]; omega)
      cases ee
      obtain ⟨_, _, ee, _, x4⟩ := hrw.at_ (k := (j + 1) * 3 + 1) (by rw [cellsJ_len]; omega)
      cases ee
      obtain ⟨_, _, ee, _, x5⟩ := hrw.at_ (k := (j + 1) * 3 + 2) (by rw [cellsJ_len]; omega)
      cases ee
      have g0 := cellsJ_at qs hj0
      have g1 := cellsJ_at qs hj1
      rw [List.getElem?_eq_getElem (by rw [cellsJ_len]; omega), List.getElem?_eq_getElem (by rw [cellsJ_len]; omega), List.getElem?_eq_getElem (by rw [cellsJ_len]; omega)] at g0 g1
      obtain ⟨a0, a1, a2⟩ := g0
      obtain ⟨a3, a4, a5⟩ := g1
      rw [Option.some.inj a0] at x0
      rw [Option.some.inj a1, ← Nat.add_assoc] at x1
      rw [Option.some.inj a2, ← Nat.add_assoc] at x2
      rw [Option.some.inj a3] at x3
      rw [Option.some.inj a4, ← Nat.add_assoc] at x4
      rw [Option.some.inj a5, ← Nat.add_assoc] at x5
      have hx := HQB.out _ (List.getElem_mem hj0)
      have hbad := powers.lay (show badN qs j ↔ (qs[j].a = qs[j + 1].a ∧ qs[j + 1].b < qs[j].b + qs[j].c) by unfold badN; rw [at3_eq hj0, at3_eq hj1])
      have lbk : bk < wr.heap.size := Nat.lt_of_lt_of_le hbk HJ.out.1.size
      have e3 : IntKind.i64.wrap (j : Int) = (j : Int) := IntWalk.i64_in _ (by omega)
      have q1 : 0 ≤ (j : Int) + 1 := by omega
      have q2 : (j : Int) + 1 < (n : Int) := by omega
      have q3 : (j : Int) < (n : Int) := by omega
      have q4 : 0 ≤ (j : Int) + 1 ∧ (j : Int) + 1 < (n : Int) := ⟨q1, q2⟩
      have q5 : j < n := by omega
      clear a0 a1 a2 a3 a4 a5
      generalize qs[j] = x at *
      generalize qs[j + 1] = y at *
      go_upto_region 6 with (fail)
      go_cut [5, 6] from 17 to 25 (fun a b wx => ∃ (q5 q6 : Nat), a = .pointer (some ⟨q5, 0, none⟩) ∧ b = .pointer (some ⟨q6, 0, none⟩) ∧ Hid (Blk wx q5 95 #[.int .i64 x.a, .int .i64 x.b, .int .i64 x.c] ∧ Blk wx q6 95 #[.int .i64 y.a, .int .i64 y.b, .int .i64 y.c] ∧ Below w.heap.size w wx ∧ Below w2.heap.size w2 wx))
      case first =>
        have hS0 : Below wr.heap.size wr wr.drew := (Below.refl _ _).drew
        have hbd := hb0.trans (hS0.mono hb0.size)
        have hbe := HJ.out.1.trans (hS0.mono HJ.out.1.size)
        refine mix.region_D (fun w' => Below wr.heap.size wr w') (fun _ => false) (by kernel_rfl) ?_
        generalize wr.drew = wd at hS0 hbd hbe ⊢
        refine mix.D_takeT (i := 0) (v := ?_) rfl (by kernel_rfl) (by kernel_rfl) (fun _ _ _ h => h) (Or.inl ⟨by first | rfl | simp [Region.wanted, yielded], ?_⟩) hS0 ?_
        rotate_left
        · intro w' hSw
          have z0 := (hSw.cell (p := ⟨bk, off + j * 3, none⟩) lbk).trans x0
          have z1 := (hSw.cell (p := ⟨bk, off + j * 3 + 1, none⟩) lbk).trans x1
          have z2 := (hSw.cell (p := ⟨bk, off + j * 3 + 2, none⟩) lbk).trans x2
          have z3 := (hSw.cell (p := ⟨bk, off + (j + 1) * 3, none⟩) lbk).trans x3
          have z4 := (hSw.cell (p := ⟨bk, off + (j + 1) * 3 + 1, none⟩) lbk).trans x4
          have z5 := (hSw.cell (p := ⟨bk, off + (j + 1) * 3 + 2, none⟩) lbk).trans x5
          try simp only [List.getElem_toArray, List.getElem_cons_zero, List.getElem_cons_succ]
          go_simp
          exact rfl
        try simp only [Act.put, List.setIfInBounds_toArray, List.set_cons_zero, List.set_cons_succ, List.getElem_toArray, List.getElem_cons_zero, List.getElem_cons_succ]
        refine mix.D_takeT (i := 1) (v := ?_) rfl (by kernel_rfl) (by kernel_rfl) (fun _ _ _ h => h) (Or.inl ⟨by first | rfl | simp [Region.wanted, yielded], ?_⟩) hS0 ?_
        rotate_left
        · intro w' hSw
          have z0 := (hSw.cell (p := ⟨bk, off + j * 3, none⟩) lbk).trans x0
          have z1 := (hSw.cell (p := ⟨bk, off + j * 3 + 1, none⟩) lbk).trans x1
          have z2 := (hSw.cell (p := ⟨bk, off + j * 3 + 2, none⟩) lbk).trans x2
          have z3 := (hSw.cell (p := ⟨bk, off + (j + 1) * 3, none⟩) lbk).trans x3
          have z4 := (hSw.cell (p := ⟨bk, off + (j + 1) * 3 + 1, none⟩) lbk).trans x4
          have z5 := (hSw.cell (p := ⟨bk, off + (j + 1) * 3 + 2, none⟩) lbk).trans x5
          try simp only [List.getElem_toArray, List.getElem_cons_zero, List.getElem_cons_succ]
          go_simp
          exact rfl
        try simp only [Act.put, List.setIfInBounds_toArray, List.set_cons_zero, List.set_cons_succ, List.getElem_toArray, List.getElem_cons_zero, List.getElem_cons_succ]
        refine mix.D_takeT (i := 2) (v := ?_) rfl (by kernel_rfl) (by kernel_rfl) (fun _ _ _ h => h) (Or.inl ⟨by first | rfl | simp [Region.wanted, yielded], ?_⟩) hS0 ?_
        rotate_left
        · intro w' hSw
          have z0 := (hSw.cell (p := ⟨bk, off + j * 3, none⟩) lbk).trans x0
          have z1 := (hSw.cell (p := ⟨bk, off + j * 3 + 1, none⟩) lbk).trans x1
          have z2 := (hSw.cell (p := ⟨bk, off + j * 3 + 2, none⟩) lbk).trans x2
          have z3 := (hSw.cell (p := ⟨bk, off + (j + 1) * 3, none⟩) lbk).trans x3
          have z4 := (hSw.cell (p := ⟨bk, off + (j + 1) * 3 + 1, none⟩) lbk).trans x4
          have z5 := (hSw.cell (p := ⟨bk, off + (j + 1) * 3 + 2, none⟩) lbk).trans x5
          try simp only [List.getElem_toArray, List.getElem_cons_zero, List.getElem_cons_succ]
          go_simp
          exact rfl
        try simp only [Act.put, List.setIfInBounds_toArray, List.set_cons_zero, List.set_cons_succ, List.getElem_toArray, List.getElem_cons_zero, List.getElem_cons_succ]
        refine mix.D_takeT (i := 3) (v := ?_) rfl (by kernel_rfl) (by kernel_rfl) (fun _ _ _ h => h) (Or.inl ⟨by first | rfl | simp [Region.wanted, yielded], ?_⟩) hS0 ?_
        rotate_left
        · intro w' hSw
          have z0 := (hSw.cell (p := ⟨bk, off + j * 3, none⟩) lbk).trans x0
          have z1 := (hSw.cell (p := ⟨bk, off + j * 3 + 1, none⟩) lbk).trans x1
          have z2 := (hSw.cell (p := ⟨bk, off + j * 3 + 2, none⟩) lbk).trans x2
          have z3 := (hSw.cell (p := ⟨bk, off + (j + 1) * 3, none⟩) lbk).trans x3
          have z4 := (hSw.cell (p := ⟨bk, off + (j + 1) * 3 + 1, none⟩) lbk).trans x4
          have z5 := (hSw.cell (p := ⟨bk, off + (j + 1) * 3 + 2, none⟩) lbk).trans x5
          try simp only [List.getElem_toArray, List.getElem_cons_zero, List.getElem_cons_succ]
          go_simp
          exact rfl
        try simp only [Act.put, List.setIfInBounds_toArray, List.set_cons_zero, List.set_cons_succ, List.getElem_toArray, List.getElem_cons_zero, List.getElem_cons_succ]
        refine mix.D_takeT (i := 4) (v := ?_) rfl (by kernel_rfl) (by kernel_rfl) (fun _ _ _ h => h) (Or.inl ⟨by first | rfl | simp [Region.wanted, yielded], ?_⟩) hS0 ?_
        rotate_left
        · intro w' hSw
          have z0 := (hSw.cell (p := ⟨bk, off + j * 3, none⟩) lbk).trans x0
          have z1 := (hSw.cell (p := ⟨bk, off + j * 3 + 1, none⟩) lbk).trans x1
          have z2 := (hSw.cell (p := ⟨bk, off + j * 3 + 2, none⟩) lbk).trans x2
          have z3 := (hSw.cell (p := ⟨bk, off + (j + 1) * 3, none⟩) lbk).trans x3
          have z4 := (hSw.cell (p := ⟨bk, off + (j + 1) * 3 + 1, none⟩) lbk).trans x4
          have z5 := (hSw.cell (p := ⟨bk, off + (j + 1) * 3 + 2, none⟩) lbk).trans x5
          try simp only [List.getElem_toArray, List.getElem_cons_zero, List.getElem_cons_succ]
          go_simp
          exact rfl
        try simp only [Act.put, List.setIfInBounds_toArray, List.set_cons_zero, List.set_cons_succ, List.getElem_toArray, List.getElem_cons_zero, List.getElem_cons_succ]
        refine mix.D_takeT (i := 5) (v := ?_) rfl (by kernel_rfl) (by kernel_rfl) (fun _ _ _ h => h) (Or.inl ⟨by first | rfl | simp [Region.wanted, yielded], ?_⟩) hS0 ?_
        rotate_left
        · intro w' hSw
          have z0 := (hSw.cell (p := ⟨bk, off + j * 3, none⟩) lbk).trans x0
          have z1 := (hSw.cell (p := ⟨bk, off + j * 3 + 1, none⟩) lbk).trans x1
          have z2 := (hSw.cell (p := ⟨bk, off + j * 3 + 2, none⟩) lbk).trans x2
          have z3 := (hSw.cell (p := ⟨bk, off + (j + 1) * 3, none⟩) lbk).trans x3
          have z4 := (hSw.cell (p := ⟨bk, off + (j + 1) * 3 + 1, none⟩) lbk).trans x4
          have z5 := (hSw.cell (p := ⟨bk, off + (j + 1) * 3 + 2, none⟩) lbk).trans x5
          try simp only [List.getElem_toArray, List.getElem_cons_zero, List.getElem_cons_succ]
          go_simp
          exact rfl
        try simp only [Act.put, List.setIfInBounds_toArray, List.set_cons_zero, List.set_cons_succ, List.getElem_toArray, List.getElem_cons_zero, List.getElem_cons_succ]
        refine mix.D_takeT (i := 6) (v := ?_) rfl (by kernel_rfl) (by kernel_rfl) (fun _ _ _ h => h) (Or.inl ⟨by first | rfl | simp [Region.wanted, yielded], ?_⟩) hS0 ?_
        rotate_left
        · intro w' hSw
          have z0 := (hSw.cell (p := ⟨bk, off + j * 3, none⟩) lbk).trans x0
          have z1 := (hSw.cell (p := ⟨bk, off + j * 3 + 1, none⟩) lbk).trans x1
          have z2 := (hSw.cell (p := ⟨bk, off + j * 3 + 2, none⟩) lbk).trans x2
          have z3 := (hSw.cell (p := ⟨bk, off + (j + 1) * 3, none⟩) lbk).trans x3
          have z4 := (hSw.cell (p := ⟨bk, off + (j + 1) * 3 + 1, none⟩) lbk).trans x4
          have z5 := (hSw.cell (p := ⟨bk, off + (j + 1) * 3 + 2, none⟩) lbk).trans x5
          try simp only [List.getElem_toArray, List.getElem_cons_zero, List.getElem_cons_succ]
          go_simp
          exact rfl
        try simp only [Act.put, List.setIfInBounds_toArray, List.set_cons_zero, List.set_cons_succ, List.getElem_toArray, List.getElem_cons_zero, List.getElem_cons_succ]
        refine mix.D_takeT (i := 7) (v := ?_) rfl (by kernel_rfl) (by kernel_rfl) (fun _ _ _ h => h) (Or.inl ⟨by first | rfl | simp [Region.wanted, yielded], ?_⟩) hS0 ?_
        rotate_left
        · intro w' hSw
          have z0 := (hSw.cell (p := ⟨bk, off + j * 3, none⟩) lbk).trans x0
          have z1 := (hSw.cell (p := ⟨bk, off + j * 3 + 1, none⟩) lbk).trans x1
          have z2 := (hSw.cell (p := ⟨bk, off + j * 3 + 2, none⟩) lbk).trans x2
          have z3 := (hSw.cell (p := ⟨bk, off + (j + 1) * 3, none⟩) lbk).trans x3
          have z4 := (hSw.cell (p := ⟨bk, off + (j + 1) * 3 + 1, none⟩) lbk).trans x4
          have z5 := (hSw.cell (p := ⟨bk, off + (j + 1) * 3 + 2, none⟩) lbk).trans x5
          try simp only [List.getElem_toArray, List.getElem_cons_zero, List.getElem_cons_succ]
          go_simp
          exact rfl
        try simp only [Act.put, List.setIfInBounds_toArray, List.set_cons_zero, List.set_cons_succ, List.getElem_toArray, List.getElem_cons_zero, List.getElem_cons_succ]
        refine mix.D_takeT (i := 8) (v := ?_) rfl (by kernel_rfl) (by kernel_rfl) (fun _ _ _ h => h) (Or.inl ⟨by first | rfl | simp [Region.wanted, yielded], ?_⟩) hS0 ?_
        rotate_left
        · intro w' hSw
          have z0 := (hSw.cell (p := ⟨bk, off + j * 3, none⟩) lbk).trans x0
          have z1 := (hSw.cell (p := ⟨bk, off + j * 3 + 1, none⟩) lbk).trans x1
          have z2 := (hSw.cell (p := ⟨bk, off + j * 3 + 2, none⟩) lbk).trans x2
          have z3 := (hSw.cell (p := ⟨bk, off + (j + 1) * 3, none⟩) lbk).trans x3
          have z4 := (hSw.cell (p := ⟨bk, off + (j + 1) * 3 + 1, none⟩) lbk).trans x4
          have z5 := (hSw.cell (p := ⟨bk, off + (j + 1) * 3 + 2, none⟩) lbk).trans x5
          try simp only [List.getElem_toArray, List.getElem_cons_zero, List.getElem_cons_succ]
          go_simp
          exact rfl
        try simp only [Act.put, List.setIfInBounds_toArray, List.set_cons_zero, List.set_cons_succ, List.getElem_toArray, List.getElem_cons_zero, List.getElem_cons_succ]
        refine mix.D_two (k := 9) (j := 10) rfl rfl rfl rfl (by kernel_rfl) (fun K' hK => ?_) (fun K' hK => ?_)
        · skip
          simp only [List.getElem_toArray, List.getElem_cons_zero, List.getElem_cons_succ]
          have hS1 : Below wr.heap.size wr (wd.alloc (.cells #[.int .i64 0, .int .i64 0, .int .i64 0] 95)) := hS0.alloc hS0.size _
          go_wp2_with fail
          refine hK.out _ _ (fun _ => hS1) ?_
          clear hK K'
          try simp only [Act.put, List.setIfInBounds_toArray, List.set_cons_zero, List.set_cons_succ]
          refine mix.D_op (k := 10) rfl rfl (by kernel_rfl) (fun K' hK => ?_)
          simp only [List.getElem_toArray, List.getElem_cons_zero, List.getElem_cons_succ]
          have hS2 : Below wr.heap.size wr ((wd.alloc (.cells #[.int .i64 0, .int .i64 0, .int .i64 0] 95)).alloc (.cells #[.int .i64 0, .int .i64 0, .int .i64 0] 95)) := hS1.alloc hS1.size _
          go_wp2_with fail
          refine hK.out _ _ (fun _ => hS2) ?_
          clear hK K' hS1
          try simp only [Act.put, List.setIfInBounds_toArray, List.set_cons_zero, List.set_cons_succ]
          have ka := (Blk.new wd 95 #[.int .i64 0, .int .i64 0, .int .i64 0]).alloc (.cells #[.int .i64 0, .int .i64 0, .int .i64 0] 95)
          have kb := Blk.new (wd.alloc (.cells #[.int .i64 0, .int .i64 0, .int .i64 0] 95)) 95 #[.int .i64 0, .int .i64 0, .int .i64 0]
          have bb : Below w.heap.size w ((wd.alloc (.cells #[.int .i64 0, .int .i64 0, .int .i64 0] 95)).alloc (.cells #[.int .i64 0, .int .i64 0, .int .i64 0] 95)) := (hbd.alloc hbd.size _).alloc (by have := hbd.size; simp; omega) _
          have cc : Below w2.heap.size w2 ((wd.alloc (.cells #[.int .i64 0, .int .i64 0, .int .i64 0] 95)).alloc (.cells #[.int .i64 0, .int .i64 0, .int .i64 0] 95)) := (hbe.alloc hbe.size _).alloc (by have := hbe.size; simp; omega) _
          have hlo2 : w2.heap.size ≤ wd.heap.size := hbe.size
          have hlo3 : wr.heap.size ≤ wd.heap.size := hS0.size
          rw [World.size_alloc] at kb
          have hq1 : wd.heap.size ≠ wd.heap.size + 1 := by omega
          have hlo : w.heap.size ≤ wd.heap.size := hbd.size
          obtain ⟨qa, hqa⟩ : ∃ qa, wd.heap.size = qa := ⟨_, rfl⟩
          obtain ⟨qb, hqb⟩ : ∃ qb, wd.heap.size + 1 = qb := ⟨_, rfl⟩
          try simp only [World.size_alloc]
          rw [hqb] at kb hq1
          rw [hqa] at ka hq1 hlo hlo2 hlo3
          have hqb' : qa + 1 = qb := by omega
          try rw [hqa]
          try rw [hqb']
          try rw [hqb]
          generalize (wd.alloc (.cells #[.int .i64 0, .int .i64 0, .int .i64 0] 95)).alloc (.cells #[.int .i64 0, .int .i64 0, .int .i64 0] 95) = W5 at *
          have hlob : w.heap.size ≤ qb := by omega
          have hlob2 : w2.heap.size ≤ qb := by omega
          have hlob3 : wr.heap.size ≤ qb := by omega
          have hqn := hq1
          have hqm : qb ≠ qa := fun e => hq1 e.symm
          have f0 := ka.frozen 0
          have f1 := ka.frozen 1
          have f2 := ka.frozen 2
          have f3 := kb.frozen 0
          have f4 := kb.frozen 1
          have f5 := kb.frozen 2
          obtain ⟨g0, g1, g2⟩ := ka.c3
          obtain ⟨g3, g4, g5⟩ := kb.c3
          have hS3 := (three ka hS2 hlo3 (.int .i64 x.a) (.int .i64 x.b) (.int .i64 x.c)).2.1
          have hS4 := (three ((three ka hS2 hlo3 (.int .i64 x.a) (.int .i64 x.b) (.int .i64 x.c)).2.2.blk kb (fun e => hqn e.symm)) hS3 hlob3 (.int .i64 y.a) (.int .i64 y.b) (.int .i64 y.c)).2.1
          refine mix.D_op (k := 11) rfl rfl (by kernel_rfl) (fun K' hK => ?_)
          simp only [List.getElem_toArray, List.getElem_cons_zero, List.getElem_cons_succ]
          go_wp2_with fail
          refine hK.out _ _ (fun _ => hS3) ?_
          clear hK K'
          try simp only [Act.put, List.setIfInBounds_toArray, List.set_cons_zero, List.set_cons_succ]
          refine mix.D_op (k := 12) rfl rfl (by kernel_rfl) (fun K' hK => ?_)
          simp only [List.getElem_toArray, List.getElem_cons_zero, List.getElem_cons_succ]
          go_wp2_with fail
          refine hK.out _ _ (fun _ => hS4) ?_
          clear hK K'
          try simp only [Act.put, List.setIfInBounds_toArray, List.set_cons_zero, List.set_cons_succ]
          refine mix.D_done (by kernel_rfl) ?_ _
          obtain ⟨k5, b5, kp5⟩ := three ka bb hlo (.int .i64 x.a) (.int .i64 x.b) (.int .i64 x.c)
          have c5 := (three ka cc hlo2 (.int .i64 x.a) (.int .i64 x.b) (.int .i64 x.c)).2.1
          have k6 := kp5.blk kb (fun e => hqn e.symm)
          generalize (((W5.setCell ⟨qa, 0, none⟩ (.int .i64 x.a)).setCell ⟨qa, 1, none⟩ (.int .i64 x.b)).setCell ⟨qa, 2, none⟩ (.int .i64 x.c)) = W6 at *
          obtain ⟨k7, b7, kp7⟩ := three k6 b5 hlob (.int .i64 y.a) (.int .i64 y.b) (.int .i64 y.c)
          have c7 := (three k6 c5 hlob2 (.int .i64 y.a) (.int .i64 y.b) (.int .i64 y.c)).2.1
          have k8 := kp7.blk k5 hqn
          generalize (((W6.setCell ⟨qb, 0, none⟩ (.int .i64 y.a)).setCell ⟨qb, 1, none⟩ (.int .i64 y.b)).setCell ⟨qb, 2, none⟩ (.int .i64 y.c)) = W7 at *
          go_wp2_with fail
          go_meet
          case rel => exact ⟨qa, qb, rfl, rfl, powers.lay ⟨k8, k7, b7, c7⟩⟩
        · skip
          simp only [List.getElem_toArray, List.getElem_cons_zero, List.getElem_cons_succ]
          have hS1 : Below wr.heap.size wr (wd.alloc (.cells #[.int .i64 0, .int .i64 0, .int .i64 0] 95)) := hS0.alloc hS0.size _
          go_wp2_with fail
          refine hK.out _ _ (fun _ => hS1) ?_
          clear hK K'
          try simp only [Act.put, List.setIfInBounds_toArray, List.set_cons_zero, List.set_cons_succ]
          refine mix.D_op (k := 9) rfl rfl (by kernel_rfl) (fun K' hK => ?_)
          simp only [List.getElem_toArray, List.getElem_cons_zero, List.getElem_cons_succ]
          have hS2 : Below wr.heap.size wr ((wd.alloc (.cells #[.int .i64 0, .int .i64 0, .int .i64 0] 95)).alloc (.cells #[.int .i64 0, .int .i64 0, .int .i64 0] 95)) := hS1.alloc hS1.size _
          go_wp2_with fail
          refine hK.out _ _ (fun _ => hS2) ?_
          clear hK K' hS1
          try simp only [Act.put, List.setIfInBounds_toArray, List.set_cons_zero, List.set_cons_succ]
          have ka := (Blk.new wd 95 #[.int .i64 0, .int .i64 0, .int .i64 0]).alloc (.cells #[.int .i64 0, .int .i64 0, .int .i64 0] 95)
          have kb := Blk.new (wd.alloc (.cells #[.int .i64 0, .int .i64 0, .int .i64 0] 95)) 95 #[.int .i64 0, .int .i64 0, .int .i64 0]
          have bb : Below w.heap.size w ((wd.alloc (.cells #[.int .i64 0, .int .i64 0, .int .i64 0] 95)).alloc (.cells #[.int .i64 0, .int .i64 0, .int .i64 0] 95)) := (hbd.alloc hbd.size _).alloc (by have := hbd.size; simp; omega) _
          have cc : Below w2.heap.size w2 ((wd.alloc (.cells #[.int .i64 0, .int .i64 0, .int .i64 0] 95)).alloc (.cells #[.int .i64 0, .int .i64 0, .int .i64 0] 95)) := (hbe.alloc hbe.size _).alloc (by have := hbe.size; simp; omega) _
          have hlo2 : w2.heap.size ≤ wd.heap.size := hbe.size
          have hlo3 : wr.heap.size ≤ wd.heap.size := hS0.size
          rw [World.size_alloc] at kb
          have hq1 : wd.heap.size ≠ wd.heap.size + 1 := by omega
          have hlo : w.heap.size ≤ wd.heap.size := hbd.size
          obtain ⟨qa, hqa⟩ : ∃ qa, wd.heap.size = qa := ⟨_, rfl⟩
          obtain ⟨qb, hqb⟩ : ∃ qb, wd.heap.size + 1 = qb := ⟨_, rfl⟩
          try simp only [World.size_alloc]
          rw [hqb] at kb hq1
          rw [hqa] at ka hq1 hlo hlo2 hlo3
          have hqb' : qa + 1 = qb := by omega
          try rw [hqa]
          try rw [hqb']
          try rw [hqb]
          generalize (wd.alloc (.cells #[.int .i64 0, .int .i64 0, .int .i64 0] 95)).alloc (.cells #[.int .i64 0, .int .i64 0, .int .i64 0] 95) = W5 at *
          have hlob : w.heap.size ≤ qb := by omega
          have hlob2 : w2.heap.size ≤ qb := by omega
          have hlob3 : wr.heap.size ≤ qb := by omega
          have hqn := hq1
          have hqm : qb ≠ qa := fun e => hq1 e.symm
          have f0 := ka.frozen 0
          have f1 := ka.frozen 1
          have f2 := ka.frozen 2
          have f3 := kb.frozen 0
          have f4 := kb.frozen 1
          have f5 := kb.frozen 2
          obtain ⟨g0, g1, g2⟩ := ka.c3
          obtain ⟨g3, g4, g5⟩ := kb.c3
          have hS3 := (three kb hS2 hlob3 (.int .i64 x.a) (.int .i64 x.b) (.int .i64 x.c)).2.1
          have hS4 := (three ((three kb hS2 hlob3 (.int .i64 x.a) (.int .i64 x.b) (.int .i64 x.c)).2.2.blk ka (fun e => hqm e.symm)) hS3 hlo3 (.int .i64 y.a) (.int .i64 y.b) (.int .i64 y.c)).2.1
          refine mix.D_op (k := 11) rfl rfl (by kernel_rfl) (fun K' hK => ?_)
          simp only [List.getElem_toArray, List.getElem_cons_zero, List.getElem_cons_succ]
          go_wp2_with fail
          refine hK.out _ _ (fun _ => hS3) ?_
          clear hK K'
          try simp only [Act.put, List.setIfInBounds_toArray, List.set_cons_zero, List.set_cons_succ]
          refine mix.D_op (k := 12) rfl rfl (by kernel_rfl) (fun K' hK => ?_)
          simp only [List.getElem_toArray, List.getElem_cons_zero, List.getElem_cons_succ]
          go_wp2_with fail
          refine hK.out _ _ (fun _ => hS4) ?_
          clear hK K'
          try simp only [Act.put, List.setIfInBounds_toArray, List.set_cons_zero, List.set_cons_succ]
          refine mix.D_done (by kernel_rfl) ?_ _
          obtain ⟨k5, b5, kp5⟩ := three kb bb hlob (.int .i64 x.a) (.int .i64 x.b) (.int .i64 x.c)
          have c5 := (three kb cc hlob2 (.int .i64 x.a) (.int .i64 x.b) (.int .i64 x.c)).2.1
          have k6 := kp5.blk ka (fun e => hqm e.symm)
          generalize (((W5.setCell ⟨qb, 0, none⟩ (.int .i64 x.a)).setCell ⟨qb, 1, none⟩ (.int .i64 x.b)).setCell ⟨qb, 2, none⟩ (.int .i64 x.c)) = W6 at *
          obtain ⟨k7, b7, kp7⟩ := three k6 b5 hlo (.int .i64 y.a) (.int .i64 y.b) (.int .i64 y.c)
          have c7 := (three k6 c5 hlo2 (.int .i64 y.a) (.int .i64 y.b) (.int .i64 y.c)).2.1
          have k8 := kp7.blk k5 hqm
          generalize (((W6.setCell ⟨qa, 0, none⟩ (.int .i64 y.a)).setCell ⟨qa, 1, none⟩ (.int .i64 y.b)).setCell ⟨qa, 2, none⟩ (.int .i64 y.c)) = W7 at *
          go_wp2_with fail
          go_meet
          case rel => exact ⟨qb, qa, rfl, rfl, powers.lay ⟨k8, k7, b7, c7⟩⟩
      case rest =>
        obtain ⟨q5, q6, rfl, rfl, HC⟩ := hcut
        obtain ⟨k5, k6, b5, c5⟩ := HC.out
        have HB5 := powers.lay b5
        have HC5 := powers.lay c5
        obtain ⟨y0, y1, y2⟩ := k5.c3
        obtain ⟨z0, z1, z2⟩ := k6.c3
        have ew : IntKind.i64.wrap (x.b + x.c) = x.b + x.c := IntWalk.i64_in _ (by omega)
        clear HC k5 k6 x0 x1 x2 x3 x4 x5 b5 c5 hb0
        by_cases h1 : x.a = y.a
        · have d1 : decide (x.a = y.a) = true := decide_eq_true h1
          have d1' : (x.a == y.a) = true := by simp [h1]
          by_cases h2 : y.b < x.b + x.c
          · have d2 : decide (y.b < x.b + x.c) = true := decide_eq_true h2
            have HF : Hid (R = true) := powers.lay (by
              rw [← HR.out, decide_eq_false (fun hp => HIF.out.1 hp j hj1 (hbad.out.2 ⟨h1, h2⟩))]; rfl)
            clear hbad
            go_wp2_with fail
            go_ret
            exact ⟨by rw [HF.out]; rfl, HB5.out⟩
          · have d2 : decide (y.b < x.b + x.c) = false := decide_eq_false h2
            have HJ2 : Hid (Below w2.heap.size w2 wc ∧ ∀ i, i < j + 1 → ¬ badN qs i) := powers.lay ⟨HC5.out, fun i hi => by
              rcases Nat.lt_or_ge i j with h | h
              · exact HJ.out.2 i h
              · obtain rfl : i = j := by omega
                exact fun hb => h2 (hbad.out.1 hb).2⟩
            clear hbad
            go_wp2_with fail
            exact ⟨⟨j + 1, by go_num, .inr (by omega), HB5.out, HJ2⟩, by first | (simp [RowKit.intOf]; done) | (simp [RowKit.intOf]; omega) | omega⟩
        · have d1 : decide (x.a = y.a) = false := decide_eq_false h1
          have d1' : (x.a == y.a) = false := by simp [h1]
          have HJ2 : Hid (Below w2.heap.size w2 wc ∧ ∀ i, i < j + 1 → ¬ badN qs i) := powers.lay ⟨HC5.out, fun i hi => by
            rcases Nat.lt_or_ge i j with h | h
            · exact HJ.out.2 i h
            · obtain rfl : i = j := by omega
              exact fun hb => h1 (hbad.out.1 hb).1⟩
          clear hbad
          go_wp2_with fail
          exact ⟨⟨j + 1, by go_num, .inr (by omega), HB5.out, HJ2⟩, by first | (simp [RowKit.intOf]; done) | (simp [RowKit.intOf]; omega) | omega⟩
    · have d0 : decide ((j : Int) + 1 < (n : Int)) = false := decide_eq_false (by omega)
      have d0' : decide (j + 1 < n) = false := decide_eq_false hlt
      have HF : Hid (R = false) := powers.lay (by
        rw [← HR.out, decide_eq_true (HIF.out.2 fun i hi => HJ.out.2 i (by rw [HQL.out] at hi; omega))]; rfl)
      go_wp2_with fail
      go_ret
      exact ⟨by rw [HF.out]; rfl, hb0⟩

end Go.Proofs.Ythmamlghmagmkaa.segs
