/- book's New, Copy, Get. -/
import Derived.Test.YtjlglfjikfpboaaBkG
import Derived.Test.YtjlglfjikfpboaaBkC


namespace Go.Proofs.Ytjlglfjikfpboaa.books
set_option linter.unusedVariables false
set_option linter.unusedSimpArgs false
open Go.RowKit Go.Shelf Go.Proofs.Ytjlglfjikfpboaa.base Go.Proofs.Ytjlglfjikfpboaa.quotas Go.Proofs.Ytjlglfjikfpboaa.vers Go.Proofs.Ytjlglfjikfpboaa.nodes Go.Proofs.Ytjlglfjikfpboaa.trees Go.Proofs.Ytjlglfjikfpboaa.texts

abbrev Qt.ok (q : Qt) : Prop := quotas.ok q.a q.b q.c q.d q.e q.f q.h
/-- a book of the call's own -/
def NewPost (w : World) (q : Qt) (Z : Nat → Prop) (b : Bk) (bp : Nat) (w' : World) : Prop := Below w.heap.size w w' ∧ ∃ (mp : Nat) (Z' : Nat → Prop), w.heap.size ≤ bp ∧ w.heap.size ≤ mp ∧ BAt w' q bp mp Z' b ∧ ∀ g, Z' g → Z g ∨ w.heap.size ≤ g

theorem made_at (q : Qt) (w : World) (qa qb qc qd qe qf qh : Int) (hq : q = ⟨qa, qb, qc, qd, qe, qf, qh⟩) : BAt (((w.alloc (.map #[] 0)).alloc (.map #[] 0)).alloc (.cells #[.int .i64 qa, .int .i64 qb, .int .i64 qc, .int .i64 qd, .int .i64 qe, .int .i64 qf, .int .i64 qh, .map (some w.heap.size), .map (some (w.heap.size + 1))] 132)) q (w.heap.size + 2) (w.heap.size + 1) (fun g => g = w.heap.size) ⟨[], []⟩ ∧ Below w.heap.size w (((w.alloc (.map #[] 0)).alloc (.map #[] 0)).alloc (.cells #[.int .i64 qa, .int .i64 qb, .int .i64 qc, .int .i64 qd, .int .i64 qe, .int .i64 qf, .int .i64 qh, .map (some w.heap.size), .map (some (w.heap.size + 1))] 132)) := by
  subst hq
  have k := Blk.new ((w.alloc (.map #[] 0)).alloc (.map #[] 0)) 132 #[.int .i64 qa, .int .i64 qb, .int .i64 qc, .int .i64 qd, .int .i64 qe, .int .i64 qf, .int .i64 qh, .map (some w.heap.size), .map (some (w.heap.size + 1))]
  have m1 : Own (w.alloc (.map #[] 0)) w.heap.size [] := World.ownsMap_made w _ _ _
  have m2 : OwnT ((w.alloc (.map #[] 0)).alloc (.map #[] 0)) (w.alloc (.map #[] 0)).heap.size [] := World.ownsMap_made (w.alloc (.map #[] 0)) _ _ _
  simp only [World.size_alloc] at k m2
  refine ⟨⟨w.heap.size, fun _ => False, k, ⟨[], rfl, (m1.alloc _).alloc _, (fun e h => by cases h), fun g h => h.elim⟩, m2.alloc _, List.Pairwise.nil, rfl, fun g h => h.elim, fun g h => ?_, by omega⟩, (((Below.refl _ _).alloc (Nat.le_refl _) _).alloc (by simp) _).alloc (by simp; omega) _⟩
  subst h
  refine ⟨by omega, by omega, by simp; omega⟩

set_option maxRecDepth 100000 in
set_option maxHeartbeats 2000000 in
theorem new_ok (q : Qt) (w : World) (hk : q.ok) :
    Calls Try.prog 33 #[.agg #[.int .i64 q.a, .int .i64 q.b, .int .i64 q.c, .int .i64 q.d, .int .i64 q.e, .int .i64 q.f, .int .i64 q.h]] w fun e w' => ∃ bp, e = .returned (.tuple #[.pointer (some ⟨bp, 0, none⟩), .int .i64 0]) ∧ NewPost w q (fun _ => False) ⟨[], []⟩ bp w' := by
  obtain ⟨qa, qb, qc, qd, qe, qf, qh⟩ := q
  have hr := fun w' => quotas.right_ok qa qb qc qd qe qf qh w' hk
  have k0 := Blk.new w 59 #[.int .i64 qa, .int .i64 qb, .int .i64 qc, .int .i64 qd, .int .i64 qe, .int .i64 qf, .int .i64 qh]
  have bA : Below w.heap.size w (w.alloc (.cells #[.int .i64 qa, .int .i64 qb, .int .i64 qc, .int .i64 qd, .int .i64 qe, .int .i64 qf, .int .i64 qh] 59)) := (Below.refl _ _).alloc (Nat.le_refl _) _
  have hmm := @run_makeMap Try.prog
  simp only [] at *
  go_enter Try.func33, Try.ntmps33
  go_wp2_with fail
  refine (hr _).mono ?_
  rintro e w1 ⟨rfl, hb1⟩
  have hb2 := bA.trans (hb1.mono bA.size)
  have k1 := k0.below hb1 k0.lt
  have c0 := k1.cell 0
  have c1 := k1.cell 1
  have c2 := k1.cell 2
  have c3 := k1.cell 3
  have c4 := k1.cell 4
  have c5 := k1.cell 5
  have c6 := k1.cell 6
  simp only [List.getElem?_toArray, List.getElem?_cons_zero, List.getElem?_cons_succ] at c0 c1 c2 c3 c4 c5 c6
  obtain ⟨hM, hMb⟩ := made_at ⟨qa, qb, qc, qd, qe, qf, qh⟩ w1 qa qb qc qd qe qf qh rfl
  go_wp2_with fail
  refine bodyPost_ret (v := .tuple #[.pointer (some ⟨w1.heap.size + 1 + 1, 0, none⟩), .int .i64 0]) (by simp [results, Try.results33, go_sem]) rfl ?_
  have z2 := hb2.size
  exact ⟨w1.heap.size + 2, rfl, hb2.trans (hMb.mono hb2.size), w1.heap.size + 1, fun g => g = w1.heap.size, by omega, by omega, hM, fun g hg => .inr (by omega)⟩

set_option maxRecDepth 100000 in
set_option maxHeartbeats 2000000 in
theorem new_no (q : Qt) (w : World) (hk : ¬ q.ok) :
    Calls Try.prog 33 #[.agg #[.int .i64 q.a, .int .i64 q.b, .int .i64 q.c, .int .i64 q.d, .int .i64 q.e, .int .i64 q.f, .int .i64 q.h]] w fun e w' => e = .returned (.tuple #[.pointer none, .int .i64 40]) ∧ Below w.heap.size w w' := by
  obtain ⟨qa, qb, qc, qd, qe, qf, qh⟩ := q
  have hr := fun w' => quotas.right_no qa qb qc qd qe qf qh w' hk
  have bA : Below w.heap.size w (w.alloc (.cells #[.int .i64 qa, .int .i64 qb, .int .i64 qc, .int .i64 qd, .int .i64 qe, .int .i64 qf, .int .i64 qh] 59)) := (Below.refl _ _).alloc (Nat.le_refl _) _
  simp only [] at *
  go_enter Try.func33, Try.ntmps33
  go_wp2_with fail
  refine (hr _).mono ?_
  rintro e w1 ⟨rfl, hb1⟩
  go_wp2_with fail
  refine bodyPost_ret (v := .tuple #[.pointer none, .int .i64 40]) (by simp [results, Try.results33, go_sem]) rfl ⟨rfl, bA.trans (hb1.mono bA.size)⟩

theorem cloneT_any {w : World} {mp : Nat} {P : List (List UInt8)} (h : OwnT w mp P) :
    Calls Try.prog 81 #[.map (some mp)] w fun e w' => e = .returned (.map (some w.heap.size)) ∧ OwnT w' w.heap.size P ∧ Below w.heap.size w w' :=
  (AnyW.maps_Clone_owns laysT 9 unitElem mp _ (DT P) w h).mono fun _ _ h => ⟨h.1, h.2.1, h.2.2.2⟩

set_option maxRecDepth 100000 in
set_option maxHeartbeats 2000000 in
theorem copy_ok (q : Qt) (bp mp : Nat) (Z : Nat → Prop) (b : Bk) (W : World) (hB : BAt W q bp mp Z b) :
    Calls Try.prog 44 #[.pointer (some ⟨bp, 0, none⟩)] W fun e w' => ∃ cp, e = .returned (.pointer (some ⟨cp, 0, none⟩)) ∧ NewPost W q Z b cp w' := by
  obtain ⟨ms, Y, e1, hS, hT, e4, e5, e6, e7, e8⟩ := hB
  obtain ⟨qa, qb, qc, qd, qe, qf, qh⟩ := q
  have lB := e1.lt
  have x0 := e1.cell 0
  have x1 := e1.cell 1
  have x2 := e1.cell 2
  have x3 := e1.cell 3
  have x4 := e1.cell 4
  have x5 := e1.cell 5
  have x6 := e1.cell 6
  have x7 := e1.cell 7
  have x8 := e1.cell 8
  simp only [bcells, List.getElem?_toArray, List.getElem?_cons_zero, List.getElem?_cons_succ] at x0 x1 x2 x3 x4 x5 x6 x7 x8
  go_enter Try.func44, Try.ntmps44
  go_wp2_with fail
  have hS0 : Below W.heap.size W W.drew := (Below.refl _ _).drew
  refine mix.region_D (fun w' => Below W.heap.size W w') (fun j => j == 16) (by kernel_rfl) ?_
  generalize W.drew = Wd at hS0 ⊢
  refine mix.D_takeT (i := 0) (v := ?_) rfl (by kernel_rfl) (by kernel_rfl) (fun _ _ _ h => h) (Or.inl ⟨by rfl, ?_⟩) hS0 ?_
  rotate_left
  · intro w' hSw
    try simp only [List.getElem_toArray, List.getElem_cons_zero, List.getElem_cons_succ]
    go_simp
    exact rfl
  try simp only [Act.put, List.setIfInBounds_toArray, List.set_cons_zero, List.set_cons_succ, List.getElem_toArray, List.getElem_cons_zero, List.getElem_cons_succ]
  refine mix.D_takeT (i := 1) (v := ?_) rfl (by kernel_rfl) (by kernel_rfl) (fun _ _ _ h => h) (Or.inl ⟨by rfl, ?_⟩) hS0 ?_
  rotate_left
  · intro w' hSw
    try simp only [List.getElem_toArray, List.getElem_cons_zero, List.getElem_cons_succ]
    go_simp
    exact rfl
  try simp only [Act.put, List.setIfInBounds_toArray, List.set_cons_zero, List.set_cons_succ, List.getElem_toArray, List.getElem_cons_zero, List.getElem_cons_succ]
  refine mix.D_takeT (i := 2) (v := ?_) rfl (by kernel_rfl) (by kernel_rfl) (fun _ _ _ h => h) (Or.inl ⟨by rfl, ?_⟩) hS0 ?_
  rotate_left
  · intro w' hSw
    try simp only [List.getElem_toArray, List.getElem_cons_zero, List.getElem_cons_succ]
    go_simp
    exact rfl
  try simp only [Act.put, List.setIfInBounds_toArray, List.set_cons_zero, List.set_cons_succ, List.getElem_toArray, List.getElem_cons_zero, List.getElem_cons_succ]
  refine mix.D_takeT (i := 3) (v := ?_) rfl (by kernel_rfl) (by kernel_rfl) (fun _ _ _ h => h) (Or.inl ⟨by rfl, ?_⟩) hS0 ?_
  rotate_left
  · intro w' hSw
    have y0 := (hSw.cell (p := ⟨bp, 0, none⟩) lB).trans x0
    have y1 := (hSw.cell (p := ⟨bp, 1, none⟩) lB).trans x1
    have y2 := (hSw.cell (p := ⟨bp, 2, none⟩) lB).trans x2
    have y3 := (hSw.cell (p := ⟨bp, 3, none⟩) lB).trans x3
    have y4 := (hSw.cell (p := ⟨bp, 4, none⟩) lB).trans x4
    have y5 := (hSw.cell (p := ⟨bp, 5, none⟩) lB).trans x5
    have y6 := (hSw.cell (p := ⟨bp, 6, none⟩) lB).trans x6
    try simp only [List.getElem_toArray, List.getElem_cons_zero, List.getElem_cons_succ]
    go_simp
    exact rfl
  try simp only [Act.put, List.setIfInBounds_toArray, List.set_cons_zero, List.set_cons_succ, List.getElem_toArray, List.getElem_cons_zero, List.getElem_cons_succ]
  refine mix.D_takeT (i := 4) (v := ?_) rfl (by kernel_rfl) (by kernel_rfl) (fun _ _ _ h => h) (Or.inl ⟨by rfl, ?_⟩) hS0 ?_
  rotate_left
  · intro w' hSw
    try simp only [List.getElem_toArray, List.getElem_cons_zero, List.getElem_cons_succ]
    go_simp
    exact rfl
  try simp only [Act.put, List.setIfInBounds_toArray, List.set_cons_zero, List.set_cons_succ, List.getElem_toArray, List.getElem_cons_zero, List.getElem_cons_succ]
  refine mix.D_takeT (i := 5) (v := ?_) rfl (by kernel_rfl) (by kernel_rfl) (fun _ _ _ h => h) (Or.inl ⟨by rfl, ?_⟩) hS0 ?_
  rotate_left
  · intro w' hSw
    try simp only [List.getElem_toArray, List.getElem_cons_zero, List.getElem_cons_succ]
    go_simp
    exact rfl
  try simp only [Act.put, List.setIfInBounds_toArray, List.set_cons_zero, List.set_cons_succ, List.getElem_toArray, List.getElem_cons_zero, List.getElem_cons_succ]
  refine mix.D_takeT (i := 6) (v := ?_) rfl (by kernel_rfl) (by kernel_rfl) (fun _ _ _ h => h) (Or.inl ⟨by rfl, ?_⟩) hS0 ?_
  rotate_left
  · intro w' hSw
    try simp only [List.getElem_toArray, List.getElem_cons_zero, List.getElem_cons_succ]
    go_simp
    exact rfl
  try simp only [Act.put, List.setIfInBounds_toArray, List.set_cons_zero, List.set_cons_succ, List.getElem_toArray, List.getElem_cons_zero, List.getElem_cons_succ]
  refine mix.D_takeT (i := 7) (v := ?_) rfl (by kernel_rfl) (by kernel_rfl) (fun _ _ _ h => h) (Or.inl ⟨by rfl, ?_⟩) hS0 ?_
  rotate_left
  · intro w' hSw
    have y7 := (hSw.cell (p := ⟨bp, 7, none⟩) lB).trans x7
    try simp only [List.getElem_toArray, List.getElem_cons_zero, List.getElem_cons_succ]
    go_simp
    exact rfl
  try simp only [Act.put, List.setIfInBounds_toArray, List.set_cons_zero, List.set_cons_succ, List.getElem_toArray, List.getElem_cons_zero, List.getElem_cons_succ]
  refine mix.D_takeT (i := 9) (v := ?_) rfl (by kernel_rfl) (by kernel_rfl) (fun _ _ _ h => h) (Or.inl ⟨by rfl, ?_⟩) hS0 ?_
  rotate_left
  · intro w' hSw
    try simp only [List.getElem_toArray, List.getElem_cons_zero, List.getElem_cons_succ]
    go_simp
    exact rfl
  try simp only [Act.put, List.setIfInBounds_toArray, List.set_cons_zero, List.set_cons_succ, List.getElem_toArray, List.getElem_cons_zero, List.getElem_cons_succ]
  refine mix.D_takeT (i := 10) (v := ?_) rfl (by kernel_rfl) (by kernel_rfl) (fun _ _ _ h => h) (Or.inl ⟨by rfl, ?_⟩) hS0 ?_
  rotate_left
  · intro w' hSw
    try simp only [List.getElem_toArray, List.getElem_cons_zero, List.getElem_cons_succ]
    go_simp
    exact rfl
  try simp only [Act.put, List.setIfInBounds_toArray, List.set_cons_zero, List.set_cons_succ, List.getElem_toArray, List.getElem_cons_zero, List.getElem_cons_succ]
  refine mix.D_takeT (i := 11) (v := ?_) rfl (by kernel_rfl) (by kernel_rfl) (fun _ _ _ h => h) (Or.inl ⟨by rfl, ?_⟩) hS0 ?_
  rotate_left
  · intro w' hSw
    try simp only [List.getElem_toArray, List.getElem_cons_zero, List.getElem_cons_succ]
    go_simp
    exact rfl
  try simp only [Act.put, List.setIfInBounds_toArray, List.set_cons_zero, List.set_cons_succ, List.getElem_toArray, List.getElem_cons_zero, List.getElem_cons_succ]
  refine mix.D_takeT (i := 12) (v := ?_) rfl (by kernel_rfl) (by kernel_rfl) (fun _ _ _ h => h) (Or.inl ⟨by rfl, ?_⟩) hS0 ?_
  rotate_left
  · intro w' hSw
    have y8 := (hSw.cell (p := ⟨bp, 8, none⟩) lB).trans x8
    try simp only [List.getElem_toArray, List.getElem_cons_zero, List.getElem_cons_succ]
    go_simp
    exact rfl
  try simp only [Act.put, List.setIfInBounds_toArray, List.set_cons_zero, List.set_cons_succ, List.getElem_toArray, List.getElem_cons_zero, List.getElem_cons_succ]
  refine mix.D_op (k := 8) rfl rfl (by kernel_rfl) (fun K' hK => ?_)
  simp only [List.getElem_toArray, List.getElem_cons_zero, List.getElem_cons_succ]
  go_wp2_with fail
  refine (cloneS_at (hS.below hS0)).mono ?_
  rintro e wb1 ⟨rfl, hS1, hs1, hz1⟩
  have hb1 : Below W.heap.size W wb1 := hS0.trans (hs1.mono hS0.size)
  refine hK.out _ _ (fun _ => hb1) ?_
  clear hK K'
  try simp only [Act.put, List.setIfInBounds_toArray, List.set_cons_zero, List.set_cons_succ]
  refine mix.D_op (k := 13) rfl rfl (by kernel_rfl) (fun K' hK => ?_)
  simp only [List.getElem_toArray, List.getElem_cons_zero, List.getElem_cons_succ]
  go_wp2_with fail
  refine (cloneT_any (ownT_below hT hb1)).mono ?_
  rintro e wb2 ⟨rfl, hT2, hs2⟩
  have hS2 := hS1.below hs2
  have hb2 : Below W.heap.size W wb2 := hb1.trans (hs2.mono hb1.size)
  refine hK.out _ _ (fun _ => hb2) ?_
  clear hK K'
  try simp only [Act.put, List.setIfInBounds_toArray, List.set_cons_zero, List.set_cons_succ]
  refine mix.D_takeT (i := 14) (v := ?_) rfl (by kernel_rfl) (by kernel_rfl) (fun _ _ _ h => h) (Or.inl ⟨by rfl, ?_⟩) hb2 ?_
  rotate_left
  · intro w' hSw
    try simp only [List.getElem_toArray, List.getElem_cons_zero, List.getElem_cons_succ]
    go_simp
    exact rfl
  try simp only [Act.put, List.setIfInBounds_toArray, List.set_cons_zero, List.set_cons_succ, List.getElem_toArray, List.getElem_cons_zero, List.getElem_cons_succ]
  refine mix.D_op (k := 15) rfl rfl (by kernel_rfl) (fun K' hK => ?_)
  simp only [List.getElem_toArray, List.getElem_cons_zero, List.getElem_cons_succ]
  go_wp2_with fail
  have hs3 : Below wb2.heap.size wb2 (wb2.alloc (.cells #[.int .i64 qa, .int .i64 qb, .int .i64 qc, .int .i64 qd, .int .i64 qe, .int .i64 qf, .int .i64 qh, .map (some Wd.heap.size), .map (some wb1.heap.size)] 132)) := (Below.refl _ _).alloc (Nat.le_refl _) _
  have kB3 := Blk.new wb2 132 #[.int .i64 qa, .int .i64 qb, .int .i64 qc, .int .i64 qd, .int .i64 qe, .int .i64 qf, .int .i64 qh, .map (some Wd.heap.size), .map (some wb1.heap.size)]
  have hsz3 : wb2.heap.size < (wb2.alloc (.cells #[.int .i64 qa, .int .i64 qb, .int .i64 qc, .int .i64 qd, .int .i64 qe, .int .i64 qf, .int .i64 qh, .map (some Wd.heap.size), .map (some wb1.heap.size)] 132)).heap.size := by simp
  have hg3 := vers.lay (rfl : wb2.heap.size = wb2.heap.size)
  generalize wb2.alloc (.cells #[.int .i64 qa, .int .i64 qb, .int .i64 qc, .int .i64 qd, .int .i64 qe, .int .i64 qf, .int .i64 qh, .map (some Wd.heap.size), .map (some wb1.heap.size)] 132) = wa3 at hs3 kB3 hsz3 ⊢
  have hS3 := hS2.below hs3
  have hT3 := ownT_below hT2 hs3
  have hb3 : Below W.heap.size W wa3 := hb2.trans (hs3.mono hb2.size)
  refine hK.out _ _ (fun _ => hb3) ?_
  clear hK K'
  try simp only [Act.put, List.setIfInBounds_toArray, List.set_cons_zero, List.set_cons_succ]
  refine mix.D_op (k := 16) rfl rfl (by kernel_rfl) (fun K' hK => ?_)
  simp only [List.getElem_toArray, List.getElem_cons_zero, List.getElem_cons_succ]
  go_wp2_with fail
  refine hK.out _ _ (fun h => by simp at h) ?_
  clear hK K'
  refine mix.D_done (by kernel_rfl) ?_ _
  go_wp2_with fail
  go_ret
  have s0 := hS0.size
  have s1 := hs1.size
  have s2 := hs2.size
  have z1 := hT2.lt
  refine ⟨wb2.heap.size, rfl, hb3, wb1.heap.size, fun g => Y g ∨ g = Wd.heap.size, by omega, by omega, ⟨Wd.heap.size, Y, kB3, hS3, hT3, e4, .inr rfl, fun g hg => .inl hg, fun g hg => ?_, by omega⟩, fun g hg => hg.imp (e6 g) (fun h => by omega)⟩
  rcases hg with hg | rfl
  · have := (e7 g (e6 g hg)).2.2
    exact ⟨by omega, by omega, by omega⟩
  · exact ⟨by omega, by omega, by omega⟩

def getP (L : List PB) (s : ByteArray) : ByteArray × List V × Bool := match lk L s with | some l => (s, l, true) | none => (⟨#[]⟩, [], false)
/-- a secret whose versions are the call's own -/
def GetPost (w : World) (r : ByteArray × List V × Bool) (e : Ending) (w' : World) : Prop := Below w.heap.size w w' ∧ ∃ A' c', e = .returned (.tuple #[.agg #[.string r.1, .slice A' r.2.1.length c'], .bool r.2.2]) ∧ OwnVF w' (fun g => w.heap.size ≤ g ∧ g < w'.heap.size) ⟨r.1, r.2.1, A', c'⟩

set_option maxRecDepth 100000 in
set_option maxHeartbeats 2000000 in
theorem get_own (bp ms mp : Nat) (q : Qt) (Y : Nat → Prop) (L : List PB) (s : ByteArray) (w : World) (e1 : Blk w bp 132 (bcells q ms mp)) (hS : SAt w ms Y L) (hs : s.size ≤ maxLen) :
    Calls Try.prog 38 #[.pointer (some ⟨bp, 0, none⟩), .string s] w (GetPost w (getP L s)) := by
  have lB := e1.lt
  have x7 := e1.cell 7
  simp only [bcells, List.getElem?_toArray, List.getElem?_cons_zero, List.getElem?_cons_succ] at x7
  obtain ⟨es, rfl, hown, hV, hY⟩ := hS
  unfold getP
  rw [lkE_pe]
  cases hl : lkE es s with
  | none =>
    simp only [Option.map_none]
    have hc := fun w' (hb : Below w.heap.size w w') => copied_ok ⟨#[]⟩ [] none 0 w' ⟨Nat.le_refl _, by simp, fun _ => rfl, Rd.nil _ _ _, fun x h => by cases h⟩
    dsimp only [List.length_nil] at hc
    have bA : Below w.heap.size w (w.alloc (.cells #[.string ⟨#[]⟩, .slice none 0 0] 79)) := (Below.refl _ _).alloc (Nat.le_refl _) _
    have k0 := (Blk.new w 79 #[.string ⟨#[]⟩, .slice none 0 0]).alloc (.cells #[.string ⟨#[]⟩, .slice none 0 0] 79)
    have bB : Below w.heap.size w ((w.alloc (.cells #[.string ⟨#[]⟩, .slice none 0 0] 79)).alloc (.cells #[.string ⟨#[]⟩, .slice none 0 0] 79)) := bA.alloc (by simp) _
    go_enter Try.func38, Try.ntmps38
    go_wp2_with (first | (at_lookup; refine wp_look_none _ rfl _ _ rfl rfl (own_below hown bA) rfl hs hl ?_))
    refine (hc _ bB).mono ?_
    rintro e2 w2 ⟨A', c', rfl, hO, hb2⟩
    have k2 := k0.below hb2 k0.lt
    have z0 := k2.cell 0
    have z1 := k2.cell 1
    have g0 := k2.frozen 0
    have g1 := k2.frozen 1
    simp only [List.getElem?_toArray, List.getElem?_cons_zero, List.getElem?_cons_succ] at z0 z1
    have b2 := bB.trans (hb2.mono bB.size)
    have s2 := hb2.size
    simp only [World.size_alloc] at s2
    have l2 := k2.lt
    go_wp2_with fail
    refine bodyPost_ret (v := .tuple #[.agg #[.string ⟨#[]⟩, .slice A' ([] : List V).length c'], .bool false]) (by simp [results, Try.results38, go_sem, z0, z1]) rfl ⟨(b2.setCell (p := ⟨w.heap.size, 0, none⟩) (Nat.le_refl _) _).setCell (p := ⟨w.heap.size, 1, none⟩) (Nat.le_refl _) _, A', c', rfl, ?_⟩
    refine (hO.agree fun g hg => ?_).mono fun g hg => ⟨?_, ?_⟩
    · have := hg.1
      simp only [World.size_alloc] at this
      rw [Below.heap_setCell _ _ _ _ (by simp; omega), Below.heap_setCell _ _ _ _ (by simp; omega)]
    · have := hg.1
      simp only [World.size_alloc] at this
      omega
    · have := hg.2
      simpa [World.setCell] using this
  | some e =>
    simp only [Option.map_some]
    have hv := (hV e (lkE_some hl).1).1.vs
    have hes := (lkE_some hl).2
    have hc := fun w' (hb : Below w.heap.size w w') => copied_ok e.s e.l e.A e.c w' (hv.at_world hb)
    clear hv
    obtain ⟨xs, xl, xA, xc⟩ := e
    simp only [] at hes hc ⊢
    subst hes
    have bA : Below w.heap.size w (w.alloc (.cells #[.string ⟨#[]⟩, .slice none 0 0] 79)) := (Below.refl _ _).alloc (Nat.le_refl _) _
    have k0 := (Blk.new w 79 #[.string ⟨#[]⟩, .slice none 0 0]).alloc (.cells #[.string xs, .slice xA xl.length xc] 79)
    have bB : Below w.heap.size w ((w.alloc (.cells #[.string ⟨#[]⟩, .slice none 0 0] 79)).alloc (.cells #[.string xs, .slice xA xl.length xc] 79)) := bA.alloc (by simp) _
    go_enter Try.func38, Try.ntmps38
    go_wp2_with (first | (at_lookup; refine wp_look_some _ rfl _ _ rfl rfl (own_below hown bA) rfl hs hl ?_))
    refine (hc _ bB).mono ?_
    rintro e2 w2 ⟨A', c', rfl, hO, hb2⟩
    have k2 := k0.below hb2 k0.lt
    have z0 := k2.cell 0
    have z1 := k2.cell 1
    have g0 := k2.frozen 0
    have g1 := k2.frozen 1
    simp only [List.getElem?_toArray, List.getElem?_cons_zero, List.getElem?_cons_succ] at z0 z1
    have b2 := bB.trans (hb2.mono bB.size)
    have s2 := hb2.size
    simp only [World.size_alloc] at s2
    have l2 := k2.lt
    go_wp2_with fail
    refine bodyPost_ret (v := .tuple #[.agg #[.string xs, .slice A' xl.length c'], .bool true]) (by simp [results, Try.results38, go_sem, z0, z1]) rfl ⟨(b2.setCell (p := ⟨w.heap.size, 0, none⟩) (Nat.le_refl _) _).setCell (p := ⟨w.heap.size, 1, none⟩) (Nat.le_refl _) _, A', c', rfl, ?_⟩
    refine (hO.agree fun g hg => ?_).mono fun g hg => ⟨?_, ?_⟩
    · have := hg.1
      simp only [World.size_alloc] at this
      rw [Below.heap_setCell _ _ _ _ (by simp; omega), Below.heap_setCell _ _ _ _ (by simp; omega)]
    · have := hg.1
      simp only [World.size_alloc] at this
      omega
    · have := hg.2
      simpa [World.setCell] using this

theorem get_ok (q : Qt) (bp mp : Nat) (Z : Nat → Prop) (b : Bk) (s : ByteArray) (w : World) (hB : BAt w q bp mp Z b) (hs : s.size ≤ maxLen) :
    Calls Try.prog 38 #[.pointer (some ⟨bp, 0, none⟩), .string s] w (GetPost w (getP b.L s)) := by
  obtain ⟨ms, Y, e1, hS, _⟩ := hB
  exact get_own bp ms mp q Y b.L s w e1 hS hs

end Go.Proofs.Ytjlglfjikfpboaa.books
