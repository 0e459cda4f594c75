/- Tree's copiedEntry and copied: a secret, a node in memory of the call's own. -/
import Derived.Test.YtoenkkbcpafanaaTrB
import Derived.Test.YtoenkkbcpafanaaMixC


namespace Go.Proofs.Ytoenkkbcpafanaa.trees
set_option linter.unusedVariables false
set_option linter.unusedSimpArgs false
open Go.RowKit Go.Proofs.Ytoenkkbcpafanaa.base Go.Proofs.Ytoenkkbcpafanaa.vers Go.Proofs.Ytoenkkbcpafanaa.nodes

set_option maxRecDepth 100000 in
set_option maxHeartbeats 1000000 in
theorem copiedEntry_any (s : ByteArray) (l : List V) (A : Option Addr) (c : Nat) (w : World) (hv : Vs w w.heap.size l A c) :
    Calls Try.prog 149 #[.agg #[.string s, .slice A l.length c]] w fun e w' => ∃ A' c', e = .returned (.agg #[.string s, .slice A' l.length c']) ∧ OwnVF w' (fun g => w.heap.size ≤ g ∧ g < w'.heap.size) ⟨s, l, A', c'⟩ ∧ Below w.heap.size w w' := by
  have k1 := (Blk.new w 47 #[.string s, .slice A l.length c]).alloc (.cells #[.string ⟨#[]⟩, .slice none 0 0] 47)
  have k2 := Blk.new (w.alloc (.cells #[.string s, .slice A l.length c] 47)) 47 #[.string ⟨#[]⟩, .slice none 0 0]
  have bW : Below w.heap.size w ((w.alloc (.cells #[.string s, .slice A l.length c] 47)).alloc (.cells #[.string ⟨#[]⟩, .slice none 0 0] 47)) := ((Below.refl _ _).alloc (Nat.le_refl _) _).alloc (by simp) _
  rw [World.size_alloc] at k2
  go_enter Try.func149, Try.ntmps149
  go_wp2_with fail
  generalize (w.alloc (.cells #[.string s, .slice A l.length c] 47)).alloc (.cells #[.string ⟨#[]⟩, .slice none 0 0] 47) = W at *
  have x0 := k1.cell 0
  have x1 := k1.cell 1
  have l0 := k1.lt
  clear k1
  simp at x0 x1
  have hS0 : Below W.heap.size W W.drew := (Below.refl _ _).drew
  refine mix.region_D (fun w' => Below W.heap.size W w') (fun j => j == 6) (by kernel_rfl) ?_
  refine mix.D_take (i := 0) (v := ?_) rfl (by kernel_rfl) (by kernel_rfl) (fun _ _ _ h => h) (Or.inl ⟨by rfl, ?_⟩) hS0 ?_
  rotate_left
  · intro w' hSw
    have y0 := (hSw.cell (p := ⟨w.heap.size, 0, none⟩) l0).trans x0
    have y1 := (hSw.cell (p := ⟨w.heap.size, 1, none⟩) l0).trans x1
    try simp only [List.getElem_toArray, List.getElem_cons_zero, List.getElem_cons_succ]
    go_simp
    exact rfl
  try simp only [Act.put, List.setIfInBounds_toArray, List.set_cons_zero, List.set_cons_succ, List.getElem_toArray, List.getElem_cons_zero, List.getElem_cons_succ]
  refine mix.D_take (i := 1) (v := ?_) rfl (by kernel_rfl) (by kernel_rfl) (fun _ _ _ h => h) (Or.inl ⟨by rfl, ?_⟩) hS0 ?_
  rotate_left
  · intro w' hSw
    have y0 := (hSw.cell (p := ⟨w.heap.size, 0, none⟩) l0).trans x0
    have y1 := (hSw.cell (p := ⟨w.heap.size, 1, none⟩) l0).trans x1
    try simp only [List.getElem_toArray, List.getElem_cons_zero, List.getElem_cons_succ]
    go_simp
    exact rfl
  try simp only [Act.put, List.setIfInBounds_toArray, List.set_cons_zero, List.set_cons_succ, List.getElem_toArray, List.getElem_cons_zero, List.getElem_cons_succ]
  refine mix.D_take (i := 2) (v := ?_) rfl (by kernel_rfl) (by kernel_rfl) (fun _ _ _ h => h) (Or.inl ⟨by rfl, ?_⟩) hS0 ?_
  rotate_left
  · intro w' hSw
    have y0 := (hSw.cell (p := ⟨w.heap.size, 0, none⟩) l0).trans x0
    have y1 := (hSw.cell (p := ⟨w.heap.size, 1, none⟩) l0).trans x1
    try simp only [List.getElem_toArray, List.getElem_cons_zero, List.getElem_cons_succ]
    go_simp
    exact rfl
  try simp only [Act.put, List.setIfInBounds_toArray, List.set_cons_zero, List.set_cons_succ, List.getElem_toArray, List.getElem_cons_zero, List.getElem_cons_succ]
  refine mix.D_take (i := 3) (v := ?_) rfl (by kernel_rfl) (by kernel_rfl) (fun _ _ _ h => h) (Or.inl ⟨by rfl, ?_⟩) hS0 ?_
  rotate_left
  · intro w' hSw
    have y0 := (hSw.cell (p := ⟨w.heap.size, 0, none⟩) l0).trans x0
    have y1 := (hSw.cell (p := ⟨w.heap.size, 1, none⟩) l0).trans x1
    try simp only [List.getElem_toArray, List.getElem_cons_zero, List.getElem_cons_succ]
    go_simp
    exact rfl
  try simp only [Act.put, List.setIfInBounds_toArray, List.set_cons_zero, List.set_cons_succ, List.getElem_toArray, List.getElem_cons_zero, List.getElem_cons_succ]
  refine mix.D_op (k := 4) rfl rfl (by kernel_rfl) (fun K' hK => ?_)
  simp only [List.getElem_toArray, List.getElem_cons_zero, List.getElem_cons_succ]
  have hb0 := bW.trans (hS0.mono bW.size)
  have hr : RdF W.drew (fun g => g < w.heap.size) A (cellsV l) := RdF.of_rd (hv.2.2.2.1.keep fun _ hp => hb0.cell hp)
  go_wp2_with fail
  refine (cloneV_any A l.length c (cellsV l) _ W.drew (by rw [cellsV_len]; omega) hr (fun h => by have h1 := hv.1; have h2 := hv.2.2.1 h; omega) (cellsV_one l) hv.2.1).mono ?_
  rintro e w1 ⟨v', rfl, hown, hb1⟩
  obtain ⟨A9, c9, rfl, hn9, _, _⟩ := row_rdF hown
  have hb2 : Below W.heap.size W w1 := hS0.trans hb1
  have hb3 := bW.trans (hb2.mono bW.size)
  have hz2 := hb2.size
  have k3 := k2.below hb2 k2.lt
  refine hK.out _ _ (fun _ => hb2) ?_
  clear hK K'
  try simp only [Act.put, List.setIfInBounds_toArray, List.set_cons_zero, List.set_cons_succ]
  refine mix.D_op (k := 5) rfl rfl (by kernel_rfl) (fun K' hK => ?_)
  simp only [List.getElem_toArray, List.getElem_cons_zero, List.getElem_cons_succ]
  go_wp2_with fail
  refine hK.out _ _ (fun _ => hb2) ?_
  clear hK K'
  try simp only [Act.put, List.setIfInBounds_toArray, List.set_cons_zero, List.set_cons_succ]
  refine mix.D_op (k := 6) rfl rfl (by kernel_rfl) (fun K' hK => ?_)
  simp only [List.getElem_toArray, List.getElem_cons_zero, List.getElem_cons_succ]
  have z0 := k3.cell 0
  have z1 := k3.cell 1
  simp at z0 z1
  have g0 := k3.frozen 0
  have g1 := k3.frozen 1
  have g2 := k3.lt
  go_wp2_with fail
  refine hK.out _ _ (fun h => by simp at h) ?_
  clear hK K'
  refine mix.D_done (by kernel_rfl) ?_ _
  go_wp2_with fail
  refine bodyPost_ret (v := .agg #[.string s, .slice A9 l.length c9]) (by simp [results, Try.results149, go_sem, z0, z1]) rfl ⟨A9, c9, rfl, ?_, (hb3.setCell (by simp) _).setCell (by simp) _⟩
  have hlt := hown.lt
  have l2 := k2.lt
  simp only [World.size_drew] at hlt hown
  have hne : ∀ g, (Value.slice A9 l.length c9).ownBlock = some g → g ≠ w.heap.size + 1 := fun g hg => by have := hlt g hg; omega
  refine ⟨ownsRow_base (lo' := 0) (ownsRow_agree hown fun g hg => ?_) (fun _ _ => Nat.zero_le _), hv.2.1, hv.2.2.2.2, fun g hg => ?_⟩
  · have := hne g hg
    rw [Below.heap_setCell _ _ _ _ (by simpa using this), Below.heap_setCell _ _ _ _ (by simpa using this)]
  · have := hlt g hg
    simp
    omega

end Go.Proofs.Ytoenkkbcpafanaa.trees
