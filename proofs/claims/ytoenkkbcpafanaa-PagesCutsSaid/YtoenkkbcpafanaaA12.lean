/- A log's roll, room and Append. -/
import Derived.Test.YtoenkkbcpafanaaA11
import Derived.Deep.Cut


namespace Go.Proofs.Ytoenkkbcpafanaa.segs
set_option linter.unusedVariables false
set_option linter.unusedSimpArgs false
open Go.RowKit Go.Proofs.Ytoenkkbcpafanaa.base Go.Proofs.Ytoenkkbcpafanaa.trees Go.Proofs.Ytoenkkbcpafanaa.powers Go.Proofs.Ytoenkkbcpafanaa.mediums Go.Lib

theorem cellsJ_set0 : ∀ (l : List T3) {i : Nat} (_ : i < l.length) (v : Int), (cellsJ l).set (i * 3) (.int .i64 v) = cellsJ (l.set i ⟨v, (at3 l i).b, (at3 l i).c⟩)
  | x :: l, 0, _, v => rfl
  | x :: l, i + 1, h, v => by
    have ih := cellsJ_set0 l (i := i) (by simpa using h) v
    have h3 : x.cells.length = 3 := rfl
    rw [List.set_cons_succ, cellsJ, cellsJ, List.set_append, if_neg (by omega), h3, show (i + 1) * 3 - 3 = i * 3 by omega, ih]; rfl
theorem cellsJ_set1 : ∀ (l : List T3) {i : Nat} (_ : i < l.length) (v : Int), (cellsJ l).set (i * 3 + 1) (.int .i64 v) = cellsJ (l.set i ⟨(at3 l i).a, v, (at3 l i).c⟩)
  | x :: l, 0, _, v => rfl
  | x :: l, i + 1, h, v => by
    have ih := cellsJ_set1 l (i := i) (by simpa using h) v
    have h3 : x.cells.length = 3 := rfl
    rw [List.set_cons_succ, cellsJ, cellsJ, List.set_append, if_neg (by omega), h3, show (i + 1) * 3 + 1 - 3 = i * 3 + 1 by omega, ih]; rfl
theorem cellsJ_set2 : ∀ (l : List T3) {i : Nat} (_ : i < l.length) (v : Int), (cellsJ l).set (i * 3 + 2) (.int .i64 v) = cellsJ (l.set i ⟨(at3 l i).a, (at3 l i).b, v⟩)
  | x :: l, 0, _, v => rfl
  | x :: l, i + 1, h, v => by
    have ih := cellsJ_set2 l (i := i) (by simpa using h) v
    have h3 : x.cells.length = 3 := rfl
    rw [List.set_cons_succ, cellsJ, cellsJ, List.set_append, if_neg (by omega), h3, show (i + 1) * 3 + 2 - 3 = i * 3 + 2 by omega, ih]; rfl
def setA (ac : List T3) (i : Nat) (v : Int) : List T3 := ac.set i ⟨v, (at3 ac i).b, (at3 ac i).c⟩
def setB (ac : List T3) (i : Nat) (v : Int) : List T3 := ac.set i ⟨(at3 ac i).a, v, (at3 ac i).c⟩
theorem setA_len (ac : List T3) (i : Nat) (v : Int) : (setA ac i v).length = ac.length := by simp [setA]
theorem setB_len (ac : List T3) (i : Nat) (v : Int) : (setB ac i v).length = ac.length := by simp [setB]
theorem setA_at (ac : List T3) (i j : Nat) (v : Int) (hi : i < ac.length) : at3 (setA ac i v) j = if i = j then ⟨v, (at3 ac j).b, (at3 ac j).c⟩ else at3 ac j := by
  unfold setA
  by_cases h : i = j
  · subst h; rw [at3_set _ hi, if_pos rfl]
  · rw [at3_ne _ h, if_neg h]
theorem setB_at (ac : List T3) (i j : Nat) (v : Int) (hi : i < ac.length) : at3 (setB ac i v) j = if i = j then ⟨(at3 ac j).a, v, (at3 ac j).c⟩ else at3 ac j := by
  unfold setB
  by_cases h : i = j
  · subst h; rw [at3_set _ hi, if_pos rfl]
  · rw [at3_ne _ h, if_neg h]
def rollP (s : LS) (j : Nat) : LS := ⟨j, setA (setA s.ac s.o 2) j 3⟩
theorem rollP_at {s : LS} (h : OkL s) {j : Nat} (hj : j < s.ac.length) (i : Nat) : at3 (rollP s j).ac i = ⟨if j = i then 3 else if s.o = i then 2 else (at3 s.ac i).a, (at3 s.ac i).b, (at3 s.ac i).c⟩ := by
  unfold rollP
  rw [setA_at _ _ _ _ (by rw [setA_len]; exact hj), setA_at _ _ _ _ h.o]
  by_cases h1 : j = i
  · rw [if_pos h1, if_pos h1]
    by_cases h2 : s.o = i
    · rw [if_pos h2]
    · rw [if_neg h2]
  · rw [if_neg h1, if_neg h1]
    by_cases h2 : s.o = i
    · rw [if_pos h2, if_pos h2]
    · rw [if_neg h2, if_neg h2]
theorem rollP_ok {s : LS} (h : OkL s) {j : Nat} (hj : j < s.ac.length) : OkL (rollP s j) := by
  have hl : (rollP s j).ac.length = s.ac.length := by unfold rollP; rw [setA_len, setA_len]
  refine ⟨by rw [hl]; exact h.len, by rw [hl]; exact hj, fun i hi => ?_, fun i hi => ?_, fun i hi => ?_, fun i hi => ?_⟩ <;> rw [hl] at hi <;> rw [rollP_at h hj]
  · have hk := h.kind i hi
    show (_ ∨ _ ∨ _) ∧ (_ ↔ i = j)
    dsimp only
    by_cases h1 : j = i
    · rw [if_pos h1]; exact ⟨.inr (.inr rfl), fun _ => h1.symm, fun _ => rfl⟩
    · rw [if_neg h1]
      by_cases h2 : s.o = i
      · rw [if_pos h2]; exact ⟨.inr (.inl rfl), fun e => by omega, fun e => absurd e.symm h1⟩
      · rw [if_neg h2]; exact ⟨hk.1, fun e => absurd (hk.2.1 e).symm h2, fun e => absurd e.symm h1⟩
  · exact h.used i hi
  · exact h.live i hi
  · intro e
    refine h.free i hi ?_
    dsimp only at e
    split at e
    · omega
    · split at e
      · omega
      · exact e
theorem grown_keep {w w' : World} {g : Nat} (h : w.grownBy w' (some g)) : Keep (fun k => k = g) w w' := ⟨h.os, h.tape, h.output, h.size, fun k hk hn => h.block k hk fun e => hn (Option.some.inj e)⟩
def LB (lg ab : Nat) (k : Nat) : Prop := k = lg ∨ k = ab
section
variable {w w' : World} {g lg ab c : Nat} {s : LS}
/-- a store into the accounts -/
theorem LgAt.store (h : w.ownsRow 0 194 3 (.slice (some ⟨ab, 0, none⟩) s.ac.length c) s.ac.length (cellsJ s.ac)) (j : Nat) (u : Value) {ac' : List T3} (he : (cellsJ s.ac).set j u = cellsJ ac') (hl : ac'.length = s.ac.length) :
    (w.setCell ⟨ab, j, none⟩ u).ownsRow 0 194 3 (.slice (some ⟨ab, 0, none⟩) ac'.length c) ac'.length (cellsJ ac') ∧ Keep (fun k => k = ab) w (w.setCell ⟨ab, j, none⟩ u) := by
  obtain ⟨h1, h2⟩ := h.stored j u
  rw [he, ← hl] at h1
  exact ⟨h1, grown_keep h2⟩

set_option maxRecDepth 100000 in
set_option maxHeartbeats 4000000 in
theorem roll_ok (h : LgAt w g lg ab c s) (j : Nat) (hj : j < s.ac.length) :
    Calls Try.prog 152 #[.pointer (some ⟨lg, 0, none⟩), .int .i64 (j : Int)] w fun e w' => e = .returned (.tuple #[]) ∧ LgAt w' g lg ab c (rollP s j) ∧ Keep (LB lg ab) w w' := by
  obtain ⟨x0, x1, x2⟩ := h.x
  have n1 := h.ok.len
  have n2 := h.ok.o
  have n3 := h.cap
  have hne := h.ne
  obtain ⟨l1, l2⟩ := h.lt
  have HH := powers.lay h
  have yo := (h.cells n2).1
  have fo := h.row.frozenAt (s.o * 3)
  clear h
  go_enter Try.func152, Try.ntmps152
  go_upto_region 0 with (fail)
  have hS0 : Below w.heap.size w w.drew := (Below.refl _ _).drew
  have fo2 : w.drew.frozen? ⟨ab, s.o * 3, none⟩ = false := fo
  refine mix.region_D (fun w' => Below w.heap.size w w') (fun j => j == 10) (by kernel_rfl) ?_
  generalize w.drew = wd at hS0 fo2 ⊢
  refine mix.D_takeT (i := 0) (v := ?_) rfl (by kernel_rfl) (by kernel_rfl) (fun _ _ _ h => h) (Or.inl ⟨by first | rfl | simp [Region.wanted, yielded], ?_⟩) hS0 ?_
  rotate_left
  · intro w' hSw
    have z1 := (hSw.cell (p := ⟨lg, 1, none⟩) l1).trans x1
    have z2 := (hSw.cell (p := ⟨lg, 2, none⟩) l1).trans x2
    try simp only [List.getElem_toArray, List.getElem_cons_zero, List.getElem_cons_succ]
    go_simp
    exact rfl
  try simp only [Act.put, List.setIfInBounds_toArray, List.set_cons_zero, List.set_cons_succ, List.getElem_toArray, List.getElem_cons_zero, List.getElem_cons_succ]
  refine mix.D_takeT (i := 1) (v := ?_) rfl (by kernel_rfl) (by kernel_rfl) (fun _ _ _ h => h) (Or.inl ⟨by first | rfl | simp [Region.wanted, yielded], ?_⟩) hS0 ?_
  rotate_left
  · intro w' hSw
    have z1 := (hSw.cell (p := ⟨lg, 1, none⟩) l1).trans x1
    have z2 := (hSw.cell (p := ⟨lg, 2, none⟩) l1).trans x2
    try simp only [List.getElem_toArray, List.getElem_cons_zero, List.getElem_cons_succ]
    go_simp
    exact rfl
  try simp only [Act.put, List.setIfInBounds_toArray, List.set_cons_zero, List.set_cons_succ, List.getElem_toArray, List.getElem_cons_zero, List.getElem_cons_succ]
  refine mix.D_takeT (i := 2) (v := ?_) rfl (by kernel_rfl) (by kernel_rfl) (fun _ _ _ h => h) (Or.inl ⟨by first | rfl | simp [Region.wanted, yielded], ?_⟩) hS0 ?_
  rotate_left
  · intro w' hSw
    have z1 := (hSw.cell (p := ⟨lg, 1, none⟩) l1).trans x1
    have z2 := (hSw.cell (p := ⟨lg, 2, none⟩) l1).trans x2
    try simp only [List.getElem_toArray, List.getElem_cons_zero, List.getElem_cons_succ]
    go_simp
    exact rfl
  try simp only [Act.put, List.setIfInBounds_toArray, List.set_cons_zero, List.set_cons_succ, List.getElem_toArray, List.getElem_cons_zero, List.getElem_cons_succ]
  refine mix.D_takeT (i := 3) (v := ?_) rfl (by kernel_rfl) (by kernel_rfl) (fun _ _ _ h => h) (Or.inl ⟨by first | rfl | simp [Region.wanted, yielded], ?_⟩) hS0 ?_
  rotate_left
  · intro w' hSw
    have z1 := (hSw.cell (p := ⟨lg, 1, none⟩) l1).trans x1
    have z2 := (hSw.cell (p := ⟨lg, 2, none⟩) l1).trans x2
    try simp only [List.getElem_toArray, List.getElem_cons_zero, List.getElem_cons_succ]
    go_simp
    exact rfl
  try simp only [Act.put, List.setIfInBounds_toArray, List.set_cons_zero, List.set_cons_succ, List.getElem_toArray, List.getElem_cons_zero, List.getElem_cons_succ]
  refine mix.D_takeT (i := 4) (v := ?_) rfl (by kernel_rfl) (by kernel_rfl) (fun _ _ _ h => h) (Or.inl ⟨by first | rfl | simp [Region.wanted, yielded], ?_⟩) hS0 ?_
  rotate_left
  · intro w' hSw
    have z1 := (hSw.cell (p := ⟨lg, 1, none⟩) l1).trans x1
    have z2 := (hSw.cell (p := ⟨lg, 2, none⟩) l1).trans x2
    try simp only [List.getElem_toArray, List.getElem_cons_zero, List.getElem_cons_succ]
    go_simp
    exact rfl
  try simp only [Act.put, List.setIfInBounds_toArray, List.set_cons_zero, List.set_cons_succ, List.getElem_toArray, List.getElem_cons_zero, List.getElem_cons_succ]
  refine mix.D_takeT (i := 5) (v := ?_) rfl (by kernel_rfl) (by kernel_rfl) (fun _ _ _ h => h) (Or.inl ⟨by first | rfl | simp [Region.wanted, yielded], ?_⟩) hS0 ?_
  rotate_left
  · intro w' hSw
    have z1 := (hSw.cell (p := ⟨lg, 1, none⟩) l1).trans x1
    have z2 := (hSw.cell (p := ⟨lg, 2, none⟩) l1).trans x2
    try simp only [List.getElem_toArray, List.getElem_cons_zero, List.getElem_cons_succ]
    go_simp
    exact rfl
  try simp only [Act.put, List.setIfInBounds_toArray, List.set_cons_zero, List.set_cons_succ, List.getElem_toArray, List.getElem_cons_zero, List.getElem_cons_succ]
  refine mix.D_takeT (i := 6) (v := ?_) rfl (by kernel_rfl) (by kernel_rfl) (fun _ _ _ h => h) (Or.inl ⟨by first | rfl | simp [Region.wanted, yielded], ?_⟩) hS0 ?_
  rotate_left
  · intro w' hSw
    have z1 := (hSw.cell (p := ⟨lg, 1, none⟩) l1).trans x1
    have z2 := (hSw.cell (p := ⟨lg, 2, none⟩) l1).trans x2
    try simp only [List.getElem_toArray, List.getElem_cons_zero, List.getElem_cons_succ]
    go_simp
    exact rfl
  try simp only [Act.put, List.setIfInBounds_toArray, List.set_cons_zero, List.set_cons_succ, List.getElem_toArray, List.getElem_cons_zero, List.getElem_cons_succ]
  refine mix.D_takeT (i := 7) (v := ?_) rfl (by kernel_rfl) (by kernel_rfl) (fun _ _ _ h => h) (Or.inl ⟨by first | rfl | simp [Region.wanted, yielded], ?_⟩) hS0 ?_
  rotate_left
  · intro w' hSw
    have z1 := (hSw.cell (p := ⟨lg, 1, none⟩) l1).trans x1
    have z2 := (hSw.cell (p := ⟨lg, 2, none⟩) l1).trans x2
    try simp only [List.getElem_toArray, List.getElem_cons_zero, List.getElem_cons_succ]
    go_simp
    exact rfl
  try simp only [Act.put, List.setIfInBounds_toArray, List.set_cons_zero, List.set_cons_succ, List.getElem_toArray, List.getElem_cons_zero, List.getElem_cons_succ]
  refine mix.D_takeT (i := 8) (v := ?_) rfl (by kernel_rfl) (by kernel_rfl) (fun _ _ _ h => h) (Or.inl ⟨by first | rfl | simp [Region.wanted, yielded], ?_⟩) hS0 ?_
  rotate_left
  · intro w' hSw
    have z1 := (hSw.cell (p := ⟨lg, 1, none⟩) l1).trans x1
    have z2 := (hSw.cell (p := ⟨lg, 2, none⟩) l1).trans x2
    try simp only [List.getElem_toArray, List.getElem_cons_zero, List.getElem_cons_succ]
    go_simp
    exact rfl
  try simp only [Act.put, List.setIfInBounds_toArray, List.set_cons_zero, List.set_cons_succ, List.getElem_toArray, List.getElem_cons_zero, List.getElem_cons_succ]
  refine mix.D_takeT (i := 9) (v := ?_) rfl (by kernel_rfl) (by kernel_rfl) (fun _ _ _ h => h) (Or.inl ⟨by first | rfl | simp [Region.wanted, yielded], ?_⟩) hS0 ?_
  rotate_left
  · intro w' hSw
    have z1 := (hSw.cell (p := ⟨lg, 1, none⟩) l1).trans x1
    have z2 := (hSw.cell (p := ⟨lg, 2, none⟩) l1).trans x2
    try simp only [List.getElem_toArray, List.getElem_cons_zero, List.getElem_cons_succ]
    go_simp
    exact rfl
  try simp only [Act.put, List.setIfInBounds_toArray, List.set_cons_zero, List.set_cons_succ, List.getElem_toArray, List.getElem_cons_zero, List.getElem_cons_succ]
  refine mix.D_op (k := 10) rfl rfl (by kernel_rfl) (fun K' hK => ?_)
  simp only [List.getElem_toArray, List.getElem_cons_zero, List.getElem_cons_succ]
  have yo2 := (hS0.cell (p := ⟨ab, s.o * 3, none⟩) l2).trans yo
  go_wp2_with fail
  refine hK.out _ _ (fun h => by simp at h) ?_
  clear hK K'
  try simp only [Act.put, List.setIfInBounds_toArray, List.set_cons_zero, List.set_cons_succ]
  refine mix.D_done (by kernel_rfl) ?_ _
  try simp only [Act.put, List.setIfInBounds_toArray, List.set_cons_zero, List.set_cons_succ, List.getElem_toArray, List.getElem_cons_zero, List.getElem_cons_succ]
  obtain ⟨r1, k1⟩ := LgAt.store (row_below HH.out.row hS0) (s.o * 3) (.int .i64 2) (cellsJ_set0 s.ac n2 2) (by simp)
  have kp1 : Keep (LB lg ab) w (wd.setCell ⟨ab, s.o * 3, none⟩ (.int .i64 2)) := (Keep.of_below hS0).trans k1 fun k hk _ => .inr hk
  change World.ownsRow _ _ _ _ (.slice _ (setA s.ac s.o 2).length _) (setA s.ac s.o 2).length (cellsJ (setA s.ac s.o 2)) at r1
  have hd1 := k1.blk (HH.out.head.below hS0 l1) (fun e => hne e.symm)
  generalize wd.setCell ⟨ab, s.o * 3, none⟩ (.int .i64 2) = w1 at *
  clear k1 yo fo x0 x1 x2
  have x0 := hd1.cell 0
  have x1 := hd1.cell 1
  have x2 := hd1.cell 2
  simp only [List.getElem?_toArray, List.getElem?_cons_zero, List.getElem?_cons_succ] at x0 x1 x2
  have ej := setA_len s.ac s.o 2
  have hj1 : j < (setA s.ac s.o 2).length := by rw [ej]; exact hj
  have yj := (r1.cellAt (j * 3) (by omega)).trans (cellsJ_at _ hj1).1
  have fj := r1.frozenAt (j * 3)
  have fl := hd1.frozen 1
  have hne2 : lg ≠ ab := fun e => hne e.symm
  have l3 : ab < w1.heap.size := Nat.lt_of_lt_of_le l2 kp1.size
  have l4 : lg < w1.heap.size := Nat.lt_of_lt_of_le l1 kp1.size
  have HEJ := powers.lay ej
  rw [ej] at r1
  generalize (setA s.ac s.o 2)[j].a = tv at yj
  clear ej hS0
  go_wp2_with fail
  obtain ⟨r2, k2⟩ := LgAt.store (s := ⟨s.o, setA s.ac s.o 2⟩) (w := w1) (by show World.ownsRow _ _ _ _ (.slice _ (setA s.ac s.o 2).length _) (setA s.ac s.o 2).length _; rw [HEJ.out]; exact r1) (j * 3) (.int .i64 3) (cellsJ_set0 (setA s.ac s.o 2) hj1 3) (by simp)
  change World.ownsRow _ _ _ _ (.slice _ (rollP s j).ac.length _) (rollP s j).ac.length (cellsJ (rollP s j).ac) at r2
  have hd2 := k2.blk hd1 (fun e => hne e.symm)
  have kp2 : Keep (LB lg ab) w (w1.setCell ⟨ab, j * 3, none⟩ (.int .i64 3)) := kp1.trans k2 fun k hk _ => .inr hk
  have hd3 := hd2.put 1 (.int .i64 (j : Int))
  simp only [List.setIfInBounds_toArray, List.set_cons_zero, List.set_cons_succ] at hd3
  have kk3 : Keep (fun k => k = lg) (w1.setCell ⟨ab, j * 3, none⟩ (.int .i64 3)) ((w1.setCell ⟨ab, j * 3, none⟩ (.int .i64 3)).setCell ⟨lg, 1, none⟩ (.int .i64 (j : Int))) := grown_keep (grown_set _ _ _ _)
  have r3 := ownsRow_agree (w' := (w1.setCell ⟨ab, j * 3, none⟩ (.int .i64 3)).setCell ⟨lg, 1, none⟩ (.int .i64 (j : Int))) r2 (fun k hk => by cases hk; exact kk3.block _ (by simpa using l3) hne)
  have kp3 : Keep (LB lg ab) w ((w1.setCell ⟨ab, j * 3, none⟩ (.int .i64 3)).setCell ⟨lg, 1, none⟩ (.int .i64 (j : Int))) := kp2.trans kk3 fun k hk _ => .inl hk
  have hlen : (rollP s j).ac.length = s.ac.length := by unfold rollP; rw [setA_len, setA_len]
  refine bodyPost_end (v := .tuple #[]) (by simp [results, Try.results152, go_sem]) rfl ⟨rfl, ⟨?_, r3, hne, rollP_ok HH.out.ok hj⟩, kp3⟩
  rw [hlen]
  exact hd3

def firstI (ac : List T3) : Int := match first ac 1 with | some j => (j : Int) | none => -1
theorem firstI_yes {ac : List T3} {j : Nat} (hj : j < ac.length) (h : (at3 ac j).a = 1) (hn : ∀ i, i < j → (at3 ac i).a ≠ 1) : firstI ac = (j : Int) := by
  have : first ac 1 = some j := by
    unfold first
    rw [List.findIdx?_eq_some_iff_getElem]
    refine ⟨hj, by rw [← at3_eq hj]; simpa using h, fun i hi => ?_⟩
    have := hn i hi
    rw [at3_eq (by omega)] at this
    simpa using this
  unfold firstI
  rw [this]
theorem firstI_no {ac : List T3} (hn : ∀ i, i < ac.length → (at3 ac i).a ≠ 1) : firstI ac = -1 := by
  have : first ac 1 = none := by
    rw [first_none, ← thoseTo_all]
    exact thoseTo_none hn
  unfold firstI
  rw [this]

set_option maxRecDepth 100000 in
set_option maxHeartbeats 4000000 in
theorem free_any (x : T3) (w : World) : Calls Try.prog 203 #[x.v] w fun e w' => e = .returned (.bool (decide (x.a = 1))) ∧ Below w.heap.size w w' := by
  obtain ⟨a, b, c⟩ := x
  have bA : Below w.heap.size w (w.alloc (.cells #[.int .i64 a, .int .i64 b, .int .i64 c] 194)) := (Below.refl _ _).alloc (Nat.le_refl _) _
  have kA := (Blk.new w 194 #[.int .i64 a, .int .i64 b, .int .i64 c]).cell 0
  simp only [List.getElem?_toArray, List.getElem?_cons_zero] at kA
  go_enter Try.func203, Try.ntmps203
  go_wp2_with fail
  go_ret
  exact ⟨rfl, bA⟩
set_option maxRecDepth 100000 in
set_option maxHeartbeats 4000000 in
theorem index_ok (h : LgAt w g lg ab c s) : Calls Try.prog 202 #[.slice (some ⟨ab, 0, none⟩) s.ac.length c, .func (.func 203) #[] #[]] w fun e w' => e = .returned (.int .i64 (firstI s.ac)) ∧ Below w.heap.size w w' := by
  have n1 := h.ok.len
  have n3 := h.cap
  have HC := powers.lay h
  obtain ⟨n, hn⟩ : ∃ n, n = s.ac.length := ⟨_, rfl⟩
  have HN := powers.lay hn
  rw [← hn] at n1 n3 ⊢
  clear h hn
  go_enter Try.func202, Try.ntmps202
  go_wp2_with fail
  go_loopw [8] (fun i wr => ∃ j : Nat, j ≤ n ∧ i = .int .i64 (j : Int) ∧ Below w.heap.size w wr ∧ Hid (∀ i, i < j → (at3 s.ac i).a ≠ 1)) (fun i _ => n - (RowKit.intOf i).toNat)
  case atStart => exact ⟨0, Nat.zero_le _, rfl, Below.refl _ _, powers.lay fun i hi => absurd hi (Nat.not_lt_zero _)⟩
  case round =>
    obtain ⟨j, hj, rfl, hb, hH⟩ := hrel
    by_cases hlt : j < n
    · have hjl : j < s.ac.length := by rw [← HN.out]; exact hlt
      obtain ⟨y0, y1, y2⟩ := (HC.out.below hb).cells hjl
      have hcj := free_any (at3 s.ac j) wr
      by_cases hp : (at3 s.ac j).a = 1
      · rw [decide_eq_true hp] at hcj
        have hR := powers.lay (firstI_yes hjl hp hH.out)
        generalize at3 s.ac j = t at *
        clear hp hH
        go_wp2_with (go_at_call 203; refine hcj.mono ?_; rintro e1 w1 ⟨rfl, hb1⟩)
        go_ret
        exact ⟨by rw [hR.out]; rfl, hb.trans (hb1.mono hb.size)⟩
      · rw [decide_eq_false hp] at hcj
        have hH2 : Hid (∀ i, i < j + 1 → (at3 s.ac i).a ≠ 1) := powers.lay fun i hi => by
          rcases Nat.lt_or_ge i j with h | h
          · exact hH.out i h
          · obtain rfl : i = j := by omega
            exact hp
        generalize at3 s.ac j = t at *
        clear hp hH
        go_wp2_with (go_at_call 203; refine hcj.mono ?_; rintro e1 w1 ⟨rfl, hb1⟩)
        have hb2 := hb.trans (hb1.mono hb.size)
        exact ⟨⟨j + 1, hlt, by go_num, hb2, hH2⟩, by first | (simp [RowKit.intOf]; done) | (simp [RowKit.intOf]; omega) | omega⟩
    · obtain rfl : j = n := by omega
      have hR := powers.lay (firstI_no (ac := s.ac) (by rw [← HN.out]; exact hH.out))
      clear hH
      go_wp2_with fail
      go_ret
      exact ⟨by rw [hR.out]; rfl, hb⟩

end
end Go.Proofs.Ytoenkkbcpafanaa.segs
