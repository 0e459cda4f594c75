/- step.over: a step's node with other kids. -/
import Derived.Test.YtnndohdiiglgmaaKTrAa


namespace Go.Proofs.Ytnndohdiiglgmaa.trees
set_option linter.unusedVariables false
set_option linter.unusedSimpArgs false
open Go.RowKit Go.Proofs.Ytnndohdiiglgmaa.base Go.Proofs.Ytnndohdiiglgmaa.vers Go.Proofs.Ytnndohdiiglgmaa.nodes Go.Proofs.Ytnndohdiiglgmaa.quotas

/-- kids in the place of some -/
def overK (ks : List K) (at_ na nb : Nat) (kids : List K) : List K := ks.take (at_ - na) ++ kids ++ ks.drop (at_ + 1 + nb)
def OPost (w : World) (lf : Bool) (A : Option Addr) (ne c : Nat) (ks : List K) (e : Ending) (w' : World) : Prop :=
  ∃ v, e = .returned (.agg #[.bool lf, .slice A ne c, v]) ∧ w'.ownsRow w.heap.size 66 5 v ks.length (cellsK ks) ∧ Below w.heap.size w w'
theorem lst_ks {w : World} {F : Nat → Prop} {l : List K} {A : Option Addr} {c : Nat} (h : KsF w F l A c) : Lst w F 5 A l.length c (cellsK l) := ⟨by rw [cellsK_len]; omega, h.1, h.2.2.1, h.2.2.2.1, cellsK_one1 l⟩
theorem lst_take {w : World} {F : Nat → Prop} {l : List K} {A : Option Addr} {c k : Nat} (h : KsF w F l A c) (hk : k ≤ l.length) : Lst w F 5 A k c ((cellsK l).take (k * 5)) := ⟨by rw [List.length_take, cellsK_len]; omega, Nat.le_trans hk h.1, h.2.2.1, h.2.2.2.1.take _, fun u hu => cellsK_one1 l u (List.mem_of_mem_take hu)⟩
theorem lst_drop {w : World} {F : Nat → Prop} {l : List K} {b off c k : Nat} (h : KsF w F l (some ⟨b, off, none⟩) c) : Lst w F 5 (some ⟨b, off + k * 5, none⟩) (l.length - k) (c - k) ((cellsK l).drop (k * 5)) := ⟨by rw [List.length_drop, cellsK_len]; omega, by have := h.1; omega, (fun e => by cases e), h.2.2.2.1.drop _, fun u hu => cellsK_one1 l u (List.mem_of_mem_drop hu)⟩
theorem lst_gone {w : World} {F : Nat → Prop} (A : Option Addr) (k : Nat) : Lst w F k A 0 0 [] := ⟨by simp, Nat.le_refl _, fun _ => rfl, RdF.nil _ _ _, fun u h => by cases h⟩

set_option maxRecDepth 100000 in
set_option maxHeartbeats 4000000 in
theorem over_mid (lf : Bool) (A : Option Addr) (ne c : Nat) (b off m : Nat) (ks kids : List K) (at_ na nb : Nat) (Aa Ab : Option Addr) (ca cb : Nat) (R : Option Addr) (r : Nat) (F : Nat → Prop) (w : World) (hK : KsF w F ks (some ⟨b, off, none⟩) m) (hR : KsF w F kids R r) (hF : ∀ g, F g → g < w.heap.size)
    (h1 : na ≤ at_) (h2 : at_ + 1 + nb ≤ ks.length) (hm : at_ + 1 + nb < m) (hl : (ks.length + kids.length) * 48 ≤ 140737488355328) :
    Calls Try.prog 88 #[.agg #[.bool lf, .slice A ne c, .slice (some ⟨b, off, none⟩) ks.length m, .int .i64 (at_ : Int), .slice Aa na ca, .slice Ab nb cb], .slice R kids.length r] w (OPost w lf A ne c (overK ks at_ na nb kids)) := by
  have hks := hK.1
  have b0 : Below w.heap.size w (((w.alloc (.cells #[.bool lf, .slice A ne c, .slice (some ⟨b, off, none⟩) ks.length m, .int .i64 (at_ : Int), .slice Aa na ca, .slice Ab nb cb] 134)).alloc (.cells #[.bool false, .slice none 0 0, .slice none 0 0] 60)).alloc (.cells #[.bool lf, .slice A ne c, .slice (some ⟨b, off, none⟩) ks.length m] 60)) := (((Below.refl _ _).alloc (Nat.le_refl _) _).alloc (by simp) _).alloc (by simp; omega) _
  have kS := ((Blk.new w 134 #[.bool lf, .slice A ne c, .slice (some ⟨b, off, none⟩) ks.length m, .int .i64 (at_ : Int), .slice Aa na ca, .slice Ab nb cb]).alloc (.cells #[.bool false, .slice none 0 0, .slice none 0 0] 60)).alloc (.cells #[.bool lf, .slice A ne c, .slice (some ⟨b, off, none⟩) ks.length m] 60)
  have kZ := (Blk.new (w.alloc (.cells #[.bool lf, .slice A ne c, .slice (some ⟨b, off, none⟩) ks.length m, .int .i64 (at_ : Int), .slice Aa na ca, .slice Ab nb cb] 134)) 60 #[.bool false, .slice none 0 0, .slice none 0 0]).alloc (.cells #[.bool lf, .slice A ne c, .slice (some ⟨b, off, none⟩) ks.length m] 60)
  have kN := Blk.new ((w.alloc (.cells #[.bool lf, .slice A ne c, .slice (some ⟨b, off, none⟩) ks.length m, .int .i64 (at_ : Int), .slice Aa na ca, .slice Ab nb cb] 134)).alloc (.cells #[.bool false, .slice none 0 0, .slice none 0 0] 60)) 60 #[.bool lf, .slice A ne c, .slice (some ⟨b, off, none⟩) ks.length m]
  simp only [World.size_alloc] at kZ kN
  have sN : (((w.alloc (.cells #[.bool lf, .slice A ne c, .slice (some ⟨b, off, none⟩) ks.length m, .int .i64 (at_ : Int), .slice Aa na ca, .slice Ab nb cb] 134)).alloc (.cells #[.bool false, .slice none 0 0, .slice none 0 0] 60)).alloc (.cells #[.bool lf, .slice A ne c, .slice (some ⟨b, off, none⟩) ks.length m] 60)).heap.size = w.heap.size + 3 := by simp
  have hlen : (overK ks at_ na nb kids).length = at_ - na + kids.length + (ks.length - (at_ + 1 + nb)) := by simp [overK]; omega
  have hcells : cellsK (overK ks at_ na nb kids) = (cellsK ks).take ((at_ - na) * 5) ++ cellsK kids ++ ((cellsK ks).drop ((at_ + 1 + nb) * 5)) := by
    rw [overK, cellsK_app, cellsK_app, cellsK_take]
    rw [cellsK_drop]
  have hcon := fun w5 (hb : Below w.heap.size w w5) g kg => concatK g (some ⟨b, off, none⟩) R (some ⟨b, off + (at_ + 1 + nb) * 5, none⟩) (at_ - na) kids.length (ks.length - (at_ + 1 + nb)) m r (m - (at_ + 1 + nb)) _ _ _ F w5 kg (lst_take (hK.agree (Agree.of_below hb hF)) (by omega)) (lst_ks (hR.agree (Agree.of_below hb hF))) (lst_drop (hK.agree (Agree.of_below hb hF))) (fun g hg => by have := hF g hg; have := hb.size; omega) (by omega)
  simp only [← hcells, ← hlen] at hcon
  unfold OPost
  generalize overK ks at_ na nb kids = L at hcon ⊢
  generalize L.length = nL at hcon ⊢
  generalize cellsK L = xL at hcon ⊢
  have n1 : IntKind.i64.wrap ((at_ : Int) - (na : Int)) = (at_ : Int) - (na : Int) := IntWalk.i64_in _ (by omega)
  have n2 : IntKind.i64.wrap ((at_ : Int) + 1) = (at_ : Int) + 1 := IntWalk.i64_in _ (by omega)
  have n3 : IntKind.i64.wrap ((at_ : Int) + 1 + (nb : Int)) = (at_ : Int) + 1 + (nb : Int) := IntWalk.i64_in _ (by omega)
  have s0 := kS.cell 0
  have s1 := kS.cell 1
  have s2 := kS.cell 2
  have s3 := kS.cell 3
  have s4 := kS.cell 4
  have s5 := kS.cell 5
  simp at s0 s1 s2 s3 s4 s5
  clear hcells hlen
  go_enter Try.func88, Try.ntmps88
  go_wp2_with fail
  go_quiet (fail)
  have b3 : Below w.heap.size w ((((w.alloc (.cells #[.bool lf, .slice A ne c, .slice (some ⟨b, off, none⟩) ks.length m, .int .i64 (at_ : Int), .slice Aa na ca, .slice Ab nb cb] 134)).alloc (.cells #[.bool false, .slice none 0 0, .slice none 0 0] 60)).alloc (.cells #[.bool lf, .slice A ne c, .slice (some ⟨b, off, none⟩) ks.length m] 60)).drewN nq) := below_drawn b0 nq
  have kZ := blk_drewN kZ nq
  have kN := blk_drewN kN nq
  have sN : ((((w.alloc (.cells #[.bool lf, .slice A ne c, .slice (some ⟨b, off, none⟩) ks.length m, .int .i64 (at_ : Int), .slice Aa na ca, .slice Ab nb cb] 134)).alloc (.cells #[.bool false, .slice none 0 0, .slice none 0 0] 60)).alloc (.cells #[.bool lf, .slice A ne c, .slice (some ⟨b, off, none⟩) ks.length m] 60)).drewN nq).heap.size = w.heap.size + 3 := sN
  clear s0 s1 s2 s3 s4 s5 kS b0 n1 n2 n3
  generalize (((w.alloc (.cells #[.bool lf, .slice A ne c, .slice (some ⟨b, off, none⟩) ks.length m, .int .i64 (at_ : Int), .slice Aa na ca, .slice Ab nb cb] 134)).alloc (.cells #[.bool false, .slice none 0 0, .slice none 0 0] 60)).alloc (.cells #[.bool lf, .slice A ne c, .slice (some ⟨b, off, none⟩) ks.length m] 60)).drewN nq = w3 at b3 kZ kN sN ⊢
  have e2 := kN.cell 2
  simp at e2
  have l2 : w.heap.size + 1 + 1 < w3.heap.size := by omega
  have p1 : (0 : Int) ≤ (at_ : Int) - (na : Int) := by omega
  have p2 : (at_ : Int) - (na : Int) ≤ ((m : Nat) : Int) := by omega
  have p3 : ((at_ : Int) - (na : Int)).toNat = at_ - na := by omega
  have q1 : (0 : Int) ≤ (at_ : Int) + 1 + (nb : Int) := by omega
  have q2 : (at_ : Int) + 1 + (nb : Int) ≤ (ks.length : Int) := by omega
  have q3 : ((at_ : Int) + 1 + (nb : Int)).toNat = at_ + 1 + nb := by omega
  have q4 : (at_ : Int) + 1 + (nb : Int) ≤ ((m : Nat) : Int) := by omega
  have q5 : ¬ (m = at_ + 1 + nb) := by omega
  go_wp2_with fail
  have hS0 : Below w3.heap.size w3 w3.drew := (Below.refl _ _).drew
  refine mix.region_D (fun w' => Below w3.heap.size w3 w') (fun j => j == 12) (by kernel_rfl) ?_
  generalize w3.drew = wd at hS0 ⊢
  refine mix.D_take (i := 0) (v := ?_) rfl (by kernel_rfl) (by kernel_rfl) (fun _ _ _ h => h) (Or.inl ⟨by rfl, ?_⟩) hS0 ?_
  rotate_left
  · intro w' hSw
    have y0 := (hSw.cell (p := ⟨w.heap.size + 1 + 1, 2, none⟩) l2).trans e2
    try simp only [List.getElem_toArray, List.getElem_cons_zero, List.getElem_cons_succ]
    go_simp
    exact rfl
  try simp only [Act.put, List.setIfInBounds_toArray, List.set_cons_zero, List.set_cons_succ, List.getElem_toArray, List.getElem_cons_zero, List.getElem_cons_succ]
  refine mix.D_take (i := 1) (v := ?_) rfl (by kernel_rfl) (by kernel_rfl) (fun _ _ _ h => h) (Or.inl ⟨by rfl, ?_⟩) hS0 ?_
  rotate_left
  · intro w' hSw
    have y0 := (hSw.cell (p := ⟨w.heap.size + 1 + 1, 2, none⟩) l2).trans e2
    try simp only [List.getElem_toArray, List.getElem_cons_zero, List.getElem_cons_succ]
    go_simp
    exact rfl
  try simp only [Act.put, List.setIfInBounds_toArray, List.set_cons_zero, List.set_cons_succ, List.getElem_toArray, List.getElem_cons_zero, List.getElem_cons_succ]
  refine mix.D_take (i := 2) (v := ?_) rfl (by kernel_rfl) (by kernel_rfl) (fun _ _ _ h => h) (Or.inl ⟨by rfl, ?_⟩) hS0 ?_
  rotate_left
  · intro w' hSw
    have y0 := (hSw.cell (p := ⟨w.heap.size + 1 + 1, 2, none⟩) l2).trans e2
    try simp only [List.getElem_toArray, List.getElem_cons_zero, List.getElem_cons_succ]
    go_simp
    exact rfl
  try simp only [Act.put, List.setIfInBounds_toArray, List.set_cons_zero, List.set_cons_succ, List.getElem_toArray, List.getElem_cons_zero, List.getElem_cons_succ]
  refine mix.D_take (i := 3) (v := ?_) rfl (by kernel_rfl) (by kernel_rfl) (fun _ _ _ h => h) (Or.inl ⟨by rfl, ?_⟩) hS0 ?_
  rotate_left
  · intro w' hSw
    have y0 := (hSw.cell (p := ⟨w.heap.size + 1 + 1, 2, none⟩) l2).trans e2
    try simp only [List.getElem_toArray, List.getElem_cons_zero, List.getElem_cons_succ]
    go_simp
    exact rfl
  try simp only [Act.put, List.setIfInBounds_toArray, List.set_cons_zero, List.set_cons_succ, List.getElem_toArray, List.getElem_cons_zero, List.getElem_cons_succ]
  refine mix.D_take (i := 4) (v := ?_) rfl (by kernel_rfl) (by kernel_rfl) (fun _ _ _ h => h) (Or.inl ⟨by rfl, ?_⟩) hS0 ?_
  rotate_left
  · intro w' hSw
    have y0 := (hSw.cell (p := ⟨w.heap.size + 1 + 1, 2, none⟩) l2).trans e2
    try simp only [List.getElem_toArray, List.getElem_cons_zero, List.getElem_cons_succ]
    go_simp
    exact rfl
  try simp only [Act.put, List.setIfInBounds_toArray, List.set_cons_zero, List.set_cons_succ, List.getElem_toArray, List.getElem_cons_zero, List.getElem_cons_succ]
  refine mix.D_take (i := 5) (v := ?_) rfl (by kernel_rfl) (by kernel_rfl) (fun _ _ _ h => h) (Or.inl ⟨by rfl, ?_⟩) hS0 ?_
  rotate_left
  · intro w' hSw
    have y0 := (hSw.cell (p := ⟨w.heap.size + 1 + 1, 2, none⟩) l2).trans e2
    try simp only [List.getElem_toArray, List.getElem_cons_zero, List.getElem_cons_succ]
    go_simp
    exact rfl
  try simp only [Act.put, List.setIfInBounds_toArray, List.set_cons_zero, List.set_cons_succ, List.getElem_toArray, List.getElem_cons_zero, List.getElem_cons_succ]
  refine mix.D_take (i := 6) (v := ?_) rfl (by kernel_rfl) (by kernel_rfl) (fun _ _ _ h => h) (Or.inl ⟨by rfl, ?_⟩) hS0 ?_
  rotate_left
  · intro w' hSw
    have y0 := (hSw.cell (p := ⟨w.heap.size + 1 + 1, 2, none⟩) l2).trans e2
    try simp only [List.getElem_toArray, List.getElem_cons_zero, List.getElem_cons_succ]
    go_simp
    exact rfl
  try simp only [Act.put, List.setIfInBounds_toArray, List.set_cons_zero, List.set_cons_succ, List.getElem_toArray, List.getElem_cons_zero, List.getElem_cons_succ]
  refine mix.D_take (i := 7) (v := ?_) rfl (by kernel_rfl) (by kernel_rfl) (fun _ _ _ h => h) (Or.inl ⟨by rfl, ?_⟩) hS0 ?_
  rotate_left
  · intro w' hSw
    have y0 := (hSw.cell (p := ⟨w.heap.size + 1 + 1, 2, none⟩) l2).trans e2
    try simp only [List.getElem_toArray, List.getElem_cons_zero, List.getElem_cons_succ]
    go_simp
    exact rfl
  try simp only [Act.put, List.setIfInBounds_toArray, List.set_cons_zero, List.set_cons_succ, List.getElem_toArray, List.getElem_cons_zero, List.getElem_cons_succ]
  refine mix.D_take (i := 8) (v := ?_) rfl (by kernel_rfl) (by kernel_rfl) (fun _ _ _ h => h) (Or.inl ⟨by rfl, ?_⟩) hS0 ?_
  rotate_left
  · intro w' hSw
    have y0 := (hSw.cell (p := ⟨w.heap.size + 1 + 1, 2, none⟩) l2).trans e2
    try simp only [List.getElem_toArray, List.getElem_cons_zero, List.getElem_cons_succ]
    go_simp
    exact rfl
  try simp only [Act.put, List.setIfInBounds_toArray, List.set_cons_zero, List.set_cons_succ, List.getElem_toArray, List.getElem_cons_zero, List.getElem_cons_succ]
  refine mix.D_op (k := 9) rfl rfl (by kernel_rfl) (fun K' hK => ?_)
  simp only [List.getElem_toArray, List.getElem_cons_zero, List.getElem_cons_succ]
  go_wp2_with fail
  have hsA : Below wd.heap.size wd (wd.alloc (.cells #[.slice (some ⟨b, off, none⟩) (at_ - na) m, .slice R kids.length r, .slice (some ⟨b, off + (at_ + 1 + nb) * 5, none⟩) (ks.length - (at_ + 1 + nb)) (m - (at_ + 1 + nb))] 58)) := (Below.refl _ _).alloc (Nat.le_refl _) _
  have kA := Blk.new wd 58 #[.slice (some ⟨b, off, none⟩) (at_ - na) m, .slice R kids.length r, .slice (some ⟨b, off + (at_ + 1 + nb) * 5, none⟩) (ks.length - (at_ + 1 + nb)) (m - (at_ + 1 + nb))]
  have hb1 : Below w3.heap.size w3 (wd.alloc (.cells #[.slice (some ⟨b, off, none⟩) (at_ - na) m, .slice R kids.length r, .slice (some ⟨b, off + (at_ + 1 + nb) * 5, none⟩) (ks.length - (at_ + 1 + nb)) (m - (at_ + 1 + nb))] 58)) := hS0.trans (hsA.mono hS0.size)
  have hcon1 := hcon _ (b3.trans (hb1.mono b3.size)) _ kA
  generalize wd.alloc (.cells #[.slice (some ⟨b, off, none⟩) (at_ - na) m, .slice R kids.length r, .slice (some ⟨b, off + (at_ + 1 + nb) * 5, none⟩) (ks.length - (at_ + 1 + nb)) (m - (at_ + 1 + nb))] 58) = w4 at hb1 hcon1 ⊢
  refine hK.out _ _ (fun _ => hb1) ?_
  clear hK K'
  try simp only [Act.put, List.setIfInBounds_toArray, List.set_cons_zero, List.set_cons_succ]
  refine mix.D_op (k := 10) rfl rfl (by kernel_rfl) (fun K' hK => ?_)
  simp only [List.getElem_toArray, List.getElem_cons_zero, List.getElem_cons_succ]
  go_wp2_with fail
  refine hcon1.mono ?_
  rintro e w5 ⟨v5, rfl, ho5, hs5⟩
  have hb2 : Below w3.heap.size w3 w5 := hb1.trans (hs5.mono hb1.size)
  obtain ⟨A5, c5, rfl, _⟩ := row_rdF ho5
  refine hK.out _ _ (fun _ => hb2) ?_
  clear hK K'
  try simp only [Act.put, List.setIfInBounds_toArray, List.set_cons_zero, List.set_cons_succ]
  refine mix.D_op (k := 11) rfl rfl (by kernel_rfl) (fun K' hK => ?_)
  simp only [List.getElem_toArray, List.getElem_cons_zero, List.getElem_cons_succ]
  go_wp2_with fail
  refine hK.out _ _ (fun _ => hb2) ?_
  clear hK K'
  try simp only [Act.put, List.setIfInBounds_toArray, List.set_cons_zero, List.set_cons_succ]
  refine mix.D_op (k := 12) rfl rfl (by kernel_rfl) (fun K' hK => ?_)
  simp only [List.getElem_toArray, List.getElem_cons_zero, List.getElem_cons_succ]
  have kN9 := kN.below hb2 kN.lt
  have kZ9 := kZ.below hb2 kZ.lt
  have f2 := kN9.frozen 2
  have g2 := kN9.cell 2
  simp at g2
  have l9 := kN9.lt
  go_wp2_with fail
  refine hK.out _ _ (fun h => by simp at h) ?_
  clear hK K'
  refine mix.D_done (by kernel_rfl) ?_ _
  try simp only [Act.put, List.setIfInBounds_toArray, List.set_cons_zero, List.set_cons_succ, List.getElem_toArray, List.getElem_cons_zero, List.getElem_cons_succ]
  have bw5 := b3.trans (hb2.mono b3.size)
  have bw6 := bw5.setCell (p := ⟨w.heap.size + 1 + 1, 2, none⟩) (by simp; omega) (.slice A5 nL c5)
  have hv5 : ∀ g, (Value.slice A5 nL c5).ownBlock = some g → w3.heap.size ≤ g := fun g hg => Nat.le_trans hb1.size (ho5.lt g hg).1
  have ho6 := ownsRow_agree (w' := w5.setCell ⟨w.heap.size + 1 + 1, 2, none⟩ (.slice A5 nL c5)) ho5 (fun g hg => Below.heap_setCell _ _ _ _ (by have := hv5 g hg; simp; omega))
  have kN6 := kN9.put 2 (.slice A5 nL c5)
  have kZ6 := kZ9.far (p := ⟨w.heap.size + 1 + 1, 2, none⟩) (by simp) (.slice A5 nL c5)
  simp at kN6
  generalize w5.setCell ⟨w.heap.size + 1 + 1, 2, none⟩ (.slice A5 nL c5) = w6 at bw6 ho6 kN6 kZ6 ⊢
  have x0 := kN6.cell 0
  have x1 := kN6.cell 1
  have x2 := kN6.cell 2
  have z0 := kZ6.cell 0
  have z1 := kZ6.cell 1
  have z2 := kZ6.cell 2
  have f0 := kZ6.frozen 0
  have f1 := kZ6.frozen 1
  have f2 := kZ6.frozen 2
  simp at x0 x1 x2 z0 z1 z2
  have y1 := kN6.lt
  have y2 := kZ6.lt
  have kz := set3_blk kZ6 (.bool lf) (.slice A ne c) (.slice A5 nL c5)
  have bz := set3_below bw6 (g := w.heap.size + 1) (by omega) (.bool lf) (.slice A ne c) (.slice A5 nL c5)
  have hoz := ownsRow_agree (w' := set3 w6 (w.heap.size + 1) (.bool lf) (.slice A ne c) (.slice A5 nL c5)) ho6 (fun g hg => set3_heap _ _ _ _ _ _ (by have := hv5 g hg; omega))
  go_wp2_with fail
  unfold set3 at kz bz hoz
  generalize ((w6.setCell ⟨w.heap.size + 1, 0, none⟩ (.bool lf)).setCell ⟨w.heap.size + 1, 1, none⟩ (.slice A ne c)).setCell ⟨w.heap.size + 1, 2, none⟩ (.slice A5 nL c5) = wX at kz bz hoz ⊢
  have z0 := kz.cell 0
  have z1 := kz.cell 1
  have z2 := kz.cell 2
  simp at z0 z1 z2
  refine bodyPost_ret (v := .agg #[.bool lf, .slice A ne c, .slice A5 nL c5]) (by simp [results, Try.results88, go_sem, z0, z1, z2]) rfl ⟨_, rfl, ownsRow_base hoz fun g hg => by have := hv5 g hg; omega, bz⟩

set_option maxRecDepth 100000 in
set_option maxHeartbeats 4000000 in
theorem over_last (lf : Bool) (A : Option Addr) (ne c : Nat) (b off  : Nat) (ks kids : List K) (at_ na nb : Nat) (Aa Ab : Option Addr) (ca cb : Nat) (R : Option Addr) (r : Nat) (F : Nat → Prop) (w : World) (hK : KsF w F ks (some ⟨b, off, none⟩) ks.length) (hR : KsF w F kids R r) (hF : ∀ g, F g → g < w.heap.size)
    (h1 : na ≤ at_) (h2 : at_ + 1 + nb ≤ ks.length) (hm : at_ + 1 + nb = ks.length) (hl : (ks.length + kids.length) * 48 ≤ 140737488355328) :
    Calls Try.prog 88 #[.agg #[.bool lf, .slice A ne c, .slice (some ⟨b, off, none⟩) ks.length ks.length, .int .i64 (at_ : Int), .slice Aa na ca, .slice Ab nb cb], .slice R kids.length r] w (OPost w lf A ne c (overK ks at_ na nb kids)) := by
  have hks := hK.1
  have b0 : Below w.heap.size w (((w.alloc (.cells #[.bool lf, .slice A ne c, .slice (some ⟨b, off, none⟩) ks.length ks.length, .int .i64 (at_ : Int), .slice Aa na ca, .slice Ab nb cb] 134)).alloc (.cells #[.bool false, .slice none 0 0, .slice none 0 0] 60)).alloc (.cells #[.bool lf, .slice A ne c, .slice (some ⟨b, off, none⟩) ks.length ks.length] 60)) := (((Below.refl _ _).alloc (Nat.le_refl _) _).alloc (by simp) _).alloc (by simp; omega) _
  have kS := ((Blk.new w 134 #[.bool lf, .slice A ne c, .slice (some ⟨b, off, none⟩) ks.length ks.length, .int .i64 (at_ : Int), .slice Aa na ca, .slice Ab nb cb]).alloc (.cells #[.bool false, .slice none 0 0, .slice none 0 0] 60)).alloc (.cells #[.bool lf, .slice A ne c, .slice (some ⟨b, off, none⟩) ks.length ks.length] 60)
  have kZ := (Blk.new (w.alloc (.cells #[.bool lf, .slice A ne c, .slice (some ⟨b, off, none⟩) ks.length ks.length, .int .i64 (at_ : Int), .slice Aa na ca, .slice Ab nb cb] 134)) 60 #[.bool false, .slice none 0 0, .slice none 0 0]).alloc (.cells #[.bool lf, .slice A ne c, .slice (some ⟨b, off, none⟩) ks.length ks.length] 60)
  have kN := Blk.new ((w.alloc (.cells #[.bool lf, .slice A ne c, .slice (some ⟨b, off, none⟩) ks.length ks.length, .int .i64 (at_ : Int), .slice Aa na ca, .slice Ab nb cb] 134)).alloc (.cells #[.bool false, .slice none 0 0, .slice none 0 0] 60)) 60 #[.bool lf, .slice A ne c, .slice (some ⟨b, off, none⟩) ks.length ks.length]
  simp only [World.size_alloc] at kZ kN
  have sN : (((w.alloc (.cells #[.bool lf, .slice A ne c, .slice (some ⟨b, off, none⟩) ks.length ks.length, .int .i64 (at_ : Int), .slice Aa na ca, .slice Ab nb cb] 134)).alloc (.cells #[.bool false, .slice none 0 0, .slice none 0 0] 60)).alloc (.cells #[.bool lf, .slice A ne c, .slice (some ⟨b, off, none⟩) ks.length ks.length] 60)).heap.size = w.heap.size + 3 := by simp
  have hlen : (overK ks at_ na nb kids).length = at_ - na + kids.length + 0 := by simp [overK]; omega
  have hcells : cellsK (overK ks at_ na nb kids) = (cellsK ks).take ((at_ - na) * 5) ++ cellsK kids ++ [] := by
    rw [overK, cellsK_app, cellsK_app, cellsK_take]
    rw [show ks.drop (at_ + 1 + nb) = [] from List.drop_eq_nil_of_le (by omega)]; rfl
  have hcon := fun w5 (hb : Below w.heap.size w w5) g kg => concatK g (some ⟨b, off, none⟩) R (some ⟨b, off, none⟩) (at_ - na) kids.length 0 ks.length r 0 _ _ _ F w5 kg (lst_take (hK.agree (Agree.of_below hb hF)) (by omega)) (lst_ks (hR.agree (Agree.of_below hb hF))) (lst_gone (some ⟨b, off, none⟩) 5) (fun g hg => by have := hF g hg; have := hb.size; omega) (by omega)
  simp only [← hcells, ← hlen] at hcon
  unfold OPost
  generalize overK ks at_ na nb kids = L at hcon ⊢
  generalize L.length = nL at hcon ⊢
  generalize cellsK L = xL at hcon ⊢
  have n1 : IntKind.i64.wrap ((at_ : Int) - (na : Int)) = (at_ : Int) - (na : Int) := IntWalk.i64_in _ (by omega)
  have n2 : IntKind.i64.wrap ((at_ : Int) + 1) = (at_ : Int) + 1 := IntWalk.i64_in _ (by omega)
  have n3 : IntKind.i64.wrap ((at_ : Int) + 1 + (nb : Int)) = (at_ : Int) + 1 + (nb : Int) := IntWalk.i64_in _ (by omega)
  have s0 := kS.cell 0
  have s1 := kS.cell 1
  have s2 := kS.cell 2
  have s3 := kS.cell 3
  have s4 := kS.cell 4
  have s5 := kS.cell 5
  simp at s0 s1 s2 s3 s4 s5
  clear hcells hlen
  go_enter Try.func88, Try.ntmps88
  go_wp2_with fail
  go_quiet (fail)
  have b3 : Below w.heap.size w ((((w.alloc (.cells #[.bool lf, .slice A ne c, .slice (some ⟨b, off, none⟩) ks.length ks.length, .int .i64 (at_ : Int), .slice Aa na ca, .slice Ab nb cb] 134)).alloc (.cells #[.bool false, .slice none 0 0, .slice none 0 0] 60)).alloc (.cells #[.bool lf, .slice A ne c, .slice (some ⟨b, off, none⟩) ks.length ks.length] 60)).drewN nq) := below_drawn b0 nq
  have kZ := blk_drewN kZ nq
  have kN := blk_drewN kN nq
  have sN : ((((w.alloc (.cells #[.bool lf, .slice A ne c, .slice (some ⟨b, off, none⟩) ks.length ks.length, .int .i64 (at_ : Int), .slice Aa na ca, .slice Ab nb cb] 134)).alloc (.cells #[.bool false, .slice none 0 0, .slice none 0 0] 60)).alloc (.cells #[.bool lf, .slice A ne c, .slice (some ⟨b, off, none⟩) ks.length ks.length] 60)).drewN nq).heap.size = w.heap.size + 3 := sN
  clear s0 s1 s2 s3 s4 s5 kS b0 n1 n2 n3
  generalize (((w.alloc (.cells #[.bool lf, .slice A ne c, .slice (some ⟨b, off, none⟩) ks.length ks.length, .int .i64 (at_ : Int), .slice Aa na ca, .slice Ab nb cb] 134)).alloc (.cells #[.bool false, .slice none 0 0, .slice none 0 0] 60)).alloc (.cells #[.bool lf, .slice A ne c, .slice (some ⟨b, off, none⟩) ks.length ks.length] 60)).drewN nq = w3 at b3 kZ kN sN ⊢
  have e2 := kN.cell 2
  simp at e2
  have l2 : w.heap.size + 1 + 1 < w3.heap.size := by omega
  have p1 : (0 : Int) ≤ (at_ : Int) - (na : Int) := by omega
  have p2 : (at_ : Int) - (na : Int) ≤ ((ks.length : Nat) : Int) := by omega
  have p3 : ((at_ : Int) - (na : Int)).toNat = at_ - na := by omega
  have q1 : (0 : Int) ≤ (at_ : Int) + 1 + (nb : Int) := by omega
  have q2 : (at_ : Int) + 1 + (nb : Int) ≤ (ks.length : Int) := by omega
  have q3 : ((at_ : Int) + 1 + (nb : Int)).toNat = ks.length := by omega
  have q4 : (at_ : Int) + 1 + (nb : Int) ≤ ((ks.length : Nat) : Int) := by omega
  clear hm
  go_wp2_with fail
  have hS0 : Below w3.heap.size w3 w3.drew := (Below.refl _ _).drew
  refine mix.region_D (fun w' => Below w3.heap.size w3 w') (fun j => j == 12) (by kernel_rfl) ?_
  generalize w3.drew = wd at hS0 ⊢
  refine mix.D_take (i := 0) (v := ?_) rfl (by kernel_rfl) (by kernel_rfl) (fun _ _ _ h => h) (Or.inl ⟨by rfl, ?_⟩) hS0 ?_
  rotate_left
  · intro w' hSw
    have y0 := (hSw.cell (p := ⟨w.heap.size + 1 + 1, 2, none⟩) l2).trans e2
    try simp only [List.getElem_toArray, List.getElem_cons_zero, List.getElem_cons_succ]
    go_simp
    exact rfl
  try simp only [Act.put, List.setIfInBounds_toArray, List.set_cons_zero, List.set_cons_succ, List.getElem_toArray, List.getElem_cons_zero, List.getElem_cons_succ]
  refine mix.D_take (i := 1) (v := ?_) rfl (by kernel_rfl) (by kernel_rfl) (fun _ _ _ h => h) (Or.inl ⟨by rfl, ?_⟩) hS0 ?_
  rotate_left
  · intro w' hSw
    have y0 := (hSw.cell (p := ⟨w.heap.size + 1 + 1, 2, none⟩) l2).trans e2
    try simp only [List.getElem_toArray, List.getElem_cons_zero, List.getElem_cons_succ]
    go_simp
    exact rfl
  try simp only [Act.put, List.setIfInBounds_toArray, List.set_cons_zero, List.set_cons_succ, List.getElem_toArray, List.getElem_cons_zero, List.getElem_cons_succ]
  refine mix.D_take (i := 2) (v := ?_) rfl (by kernel_rfl) (by kernel_rfl) (fun _ _ _ h => h) (Or.inl ⟨by rfl, ?_⟩) hS0 ?_
  rotate_left
  · intro w' hSw
    have y0 := (hSw.cell (p := ⟨w.heap.size + 1 + 1, 2, none⟩) l2).trans e2
    try simp only [List.getElem_toArray, List.getElem_cons_zero, List.getElem_cons_succ]
    go_simp
    exact rfl
  try simp only [Act.put, List.setIfInBounds_toArray, List.set_cons_zero, List.set_cons_succ, List.getElem_toArray, List.getElem_cons_zero, List.getElem_cons_succ]
  refine mix.D_take (i := 3) (v := ?_) rfl (by kernel_rfl) (by kernel_rfl) (fun _ _ _ h => h) (Or.inl ⟨by rfl, ?_⟩) hS0 ?_
  rotate_left
  · intro w' hSw
    have y0 := (hSw.cell (p := ⟨w.heap.size + 1 + 1, 2, none⟩) l2).trans e2
    try simp only [List.getElem_toArray, List.getElem_cons_zero, List.getElem_cons_succ]
    go_simp
    exact rfl
  try simp only [Act.put, List.setIfInBounds_toArray, List.set_cons_zero, List.set_cons_succ, List.getElem_toArray, List.getElem_cons_zero, List.getElem_cons_succ]
  refine mix.D_take (i := 4) (v := ?_) rfl (by kernel_rfl) (by kernel_rfl) (fun _ _ _ h => h) (Or.inl ⟨by rfl, ?_⟩) hS0 ?_
  rotate_left
  · intro w' hSw
    have y0 := (hSw.cell (p := ⟨w.heap.size + 1 + 1, 2, none⟩) l2).trans e2
    try simp only [List.getElem_toArray, List.getElem_cons_zero, List.getElem_cons_succ]
    go_simp
    exact rfl
  try simp only [Act.put, List.setIfInBounds_toArray, List.set_cons_zero, List.set_cons_succ, List.getElem_toArray, List.getElem_cons_zero, List.getElem_cons_succ]
  refine mix.D_take (i := 5) (v := ?_) rfl (by kernel_rfl) (by kernel_rfl) (fun _ _ _ h => h) (Or.inl ⟨by rfl, ?_⟩) hS0 ?_
  rotate_left
  · intro w' hSw
    have y0 := (hSw.cell (p := ⟨w.heap.size + 1 + 1, 2, none⟩) l2).trans e2
    try simp only [List.getElem_toArray, List.getElem_cons_zero, List.getElem_cons_succ]
    go_simp
    exact rfl
  try simp only [Act.put, List.setIfInBounds_toArray, List.set_cons_zero, List.set_cons_succ, List.getElem_toArray, List.getElem_cons_zero, List.getElem_cons_succ]
  refine mix.D_take (i := 6) (v := ?_) rfl (by kernel_rfl) (by kernel_rfl) (fun _ _ _ h => h) (Or.inl ⟨by rfl, ?_⟩) hS0 ?_
  rotate_left
  · intro w' hSw
    have y0 := (hSw.cell (p := ⟨w.heap.size + 1 + 1, 2, none⟩) l2).trans e2
    try simp only [List.getElem_toArray, List.getElem_cons_zero, List.getElem_cons_succ]
    go_simp
    exact rfl
  try simp only [Act.put, List.setIfInBounds_toArray, List.set_cons_zero, List.set_cons_succ, List.getElem_toArray, List.getElem_cons_zero, List.getElem_cons_succ]
  refine mix.D_take (i := 7) (v := ?_) rfl (by kernel_rfl) (by kernel_rfl) (fun _ _ _ h => h) (Or.inl ⟨by rfl, ?_⟩) hS0 ?_
  rotate_left
  · intro w' hSw
    have y0 := (hSw.cell (p := ⟨w.heap.size + 1 + 1, 2, none⟩) l2).trans e2
    try simp only [List.getElem_toArray, List.getElem_cons_zero, List.getElem_cons_succ]
    go_simp
    exact rfl
  try simp only [Act.put, List.setIfInBounds_toArray, List.set_cons_zero, List.set_cons_succ, List.getElem_toArray, List.getElem_cons_zero, List.getElem_cons_succ]
  refine mix.D_take (i := 8) (v := ?_) rfl (by kernel_rfl) (by kernel_rfl) (fun _ _ _ h => h) (Or.inl ⟨by rfl, ?_⟩) hS0 ?_
  rotate_left
  · intro w' hSw
    have y0 := (hSw.cell (p := ⟨w.heap.size + 1 + 1, 2, none⟩) l2).trans e2
    try simp only [List.getElem_toArray, List.getElem_cons_zero, List.getElem_cons_succ]
    go_simp
    exact rfl
  try simp only [Act.put, List.setIfInBounds_toArray, List.set_cons_zero, List.set_cons_succ, List.getElem_toArray, List.getElem_cons_zero, List.getElem_cons_succ]
  refine mix.D_op (k := 9) rfl rfl (by kernel_rfl) (fun K' hK => ?_)
  simp only [List.getElem_toArray, List.getElem_cons_zero, List.getElem_cons_succ]
  go_wp2_with fail
  have hsA : Below wd.heap.size wd (wd.alloc (.cells #[.slice (some ⟨b, off, none⟩) (at_ - na) ks.length, .slice R kids.length r, .slice (some ⟨b, off, none⟩) 0 0] 58)) := (Below.refl _ _).alloc (Nat.le_refl _) _
  have kA := Blk.new wd 58 #[.slice (some ⟨b, off, none⟩) (at_ - na) ks.length, .slice R kids.length r, .slice (some ⟨b, off, none⟩) 0 0]
  have hb1 : Below w3.heap.size w3 (wd.alloc (.cells #[.slice (some ⟨b, off, none⟩) (at_ - na) ks.length, .slice R kids.length r, .slice (some ⟨b, off, none⟩) 0 0] 58)) := hS0.trans (hsA.mono hS0.size)
  have hcon1 := hcon _ (b3.trans (hb1.mono b3.size)) _ kA
  generalize wd.alloc (.cells #[.slice (some ⟨b, off, none⟩) (at_ - na) ks.length, .slice R kids.length r, .slice (some ⟨b, off, none⟩) 0 0] 58) = w4 at hb1 hcon1 ⊢
  refine hK.out _ _ (fun _ => hb1) ?_
  clear hK K'
  try simp only [Act.put, List.setIfInBounds_toArray, List.set_cons_zero, List.set_cons_succ]
  refine mix.D_op (k := 10) rfl rfl (by kernel_rfl) (fun K' hK => ?_)
  simp only [List.getElem_toArray, List.getElem_cons_zero, List.getElem_cons_succ]
  go_wp2_with fail
  refine hcon1.mono ?_
  rintro e w5 ⟨v5, rfl, ho5, hs5⟩
  have hb2 : Below w3.heap.size w3 w5 := hb1.trans (hs5.mono hb1.size)
  obtain ⟨A5, c5, rfl, _⟩ := row_rdF ho5
  refine hK.out _ _ (fun _ => hb2) ?_
  clear hK K'
  try simp only [Act.put, List.setIfInBounds_toArray, List.set_cons_zero, List.set_cons_succ]
  refine mix.D_op (k := 11) rfl rfl (by kernel_rfl) (fun K' hK => ?_)
  simp only [List.getElem_toArray, List.getElem_cons_zero, List.getElem_cons_succ]
  go_wp2_with fail
  refine hK.out _ _ (fun _ => hb2) ?_
  clear hK K'
  try simp only [Act.put, List.setIfInBounds_toArray, List.set_cons_zero, List.set_cons_succ]
  refine mix.D_op (k := 12) rfl rfl (by kernel_rfl) (fun K' hK => ?_)
  simp only [List.getElem_toArray, List.getElem_cons_zero, List.getElem_cons_succ]
  have kN9 := kN.below hb2 kN.lt
  have kZ9 := kZ.below hb2 kZ.lt
  have f2 := kN9.frozen 2
  have g2 := kN9.cell 2
  simp at g2
  have l9 := kN9.lt
  go_wp2_with fail
  refine hK.out _ _ (fun h => by simp at h) ?_
  clear hK K'
  refine mix.D_done (by kernel_rfl) ?_ _
  try simp only [Act.put, List.setIfInBounds_toArray, List.set_cons_zero, List.set_cons_succ, List.getElem_toArray, List.getElem_cons_zero, List.getElem_cons_succ]
  have bw5 := b3.trans (hb2.mono b3.size)
  have bw6 := bw5.setCell (p := ⟨w.heap.size + 1 + 1, 2, none⟩) (by simp; omega) (.slice A5 nL c5)
  have hv5 : ∀ g, (Value.slice A5 nL c5).ownBlock = some g → w3.heap.size ≤ g := fun g hg => Nat.le_trans hb1.size (ho5.lt g hg).1
  have ho6 := ownsRow_agree (w' := w5.setCell ⟨w.heap.size + 1 + 1, 2, none⟩ (.slice A5 nL c5)) ho5 (fun g hg => Below.heap_setCell _ _ _ _ (by have := hv5 g hg; simp; omega))
  have kN6 := kN9.put 2 (.slice A5 nL c5)
  have kZ6 := kZ9.far (p := ⟨w.heap.size + 1 + 1, 2, none⟩) (by simp) (.slice A5 nL c5)
  simp at kN6
  generalize w5.setCell ⟨w.heap.size + 1 + 1, 2, none⟩ (.slice A5 nL c5) = w6 at bw6 ho6 kN6 kZ6 ⊢
  have x0 := kN6.cell 0
  have x1 := kN6.cell 1
  have x2 := kN6.cell 2
  have z0 := kZ6.cell 0
  have z1 := kZ6.cell 1
  have z2 := kZ6.cell 2
  have f0 := kZ6.frozen 0
  have f1 := kZ6.frozen 1
  have f2 := kZ6.frozen 2
  simp at x0 x1 x2 z0 z1 z2
  have y1 := kN6.lt
  have y2 := kZ6.lt
  have kz := set3_blk kZ6 (.bool lf) (.slice A ne c) (.slice A5 nL c5)
  have bz := set3_below bw6 (g := w.heap.size + 1) (by omega) (.bool lf) (.slice A ne c) (.slice A5 nL c5)
  have hoz := ownsRow_agree (w' := set3 w6 (w.heap.size + 1) (.bool lf) (.slice A ne c) (.slice A5 nL c5)) ho6 (fun g hg => set3_heap _ _ _ _ _ _ (by have := hv5 g hg; omega))
  go_wp2_with fail
  unfold set3 at kz bz hoz
  generalize ((w6.setCell ⟨w.heap.size + 1, 0, none⟩ (.bool lf)).setCell ⟨w.heap.size + 1, 1, none⟩ (.slice A ne c)).setCell ⟨w.heap.size + 1, 2, none⟩ (.slice A5 nL c5) = wX at kz bz hoz ⊢
  have z0 := kz.cell 0
  have z1 := kz.cell 1
  have z2 := kz.cell 2
  simp at z0 z1 z2
  refine bodyPost_ret (v := .agg #[.bool lf, .slice A ne c, .slice A5 nL c5]) (by simp [results, Try.results88, go_sem, z0, z1, z2]) rfl ⟨_, rfl, ownsRow_base hoz fun g hg => by have := hv5 g hg; omega, bz⟩

end Go.Proofs.Ytnndohdiiglgmaa.trees
