/- Tree's copied: a node in memory of the call's own. -/
import Derived.Test.YtoenkkbcpafanaaA17
import Derived.Test.YtoenkkbcpafanaaA08
import Derived.Deep.Cut
import Derived.Deep.DeepCutAuto


namespace Go.Proofs.Ytoenkkbcpafanaa.trees
set_option linter.unusedVariables false
set_option linter.unusedSimpArgs false
open Go.RowKit Go.Proofs.Ytoenkkbcpafanaa.base Go.Proofs.Ytoenkkbcpafanaa.vers Go.Proofs.Ytoenkkbcpafanaa.nodes

theorem cellsE_set (l r : List E) (x y : E) : ((cellsE (l ++ x :: r)).set (l.length * 2) (.string y.s)).set (l.length * 2 + 1) (.slice y.A y.l.length y.c) = cellsE (l ++ y :: r) := by
  rw [cellsE_app, cellsE_app, cellsE, cellsE]
  have hl : (cellsE l).length = l.length * 2 := by rw [cellsE_len]; omega
  rw [List.set_append_right _ _ (by omega), List.set_append_right _ _ (by omega), hl]
  rw [show l.length * 2 - l.length * 2 = 0 by omega, show l.length * 2 + 1 - l.length * 2 = 1 by omega]
  rfl
theorem own_slice_form {w : World} {lo : Nat} {e : TypeId} {k n : Nat} {v : Value} {xs : List Value} (h : w.ownsRow lo e k v n xs) (hn : 0 < n) : ∃ g cap, v = .slice (some ⟨g, 0, none⟩) n cap ∧ lo ≤ g ∧ g < w.heap.size ∧ n ≤ cap := by
  rcases h.2 with ⟨_, h0⟩ | ⟨g, cap, cur, rfl, hb, hg, hn', _⟩
  · omega
  · exact ⟨g, cap, rfl, hb, (Array.getElem?_eq_some_iff.1 hg).1, hn'⟩

/-- copied, at the loop's head: j secrets are of the call's own -/
def CL (w : World) (lf : Bool) (es : List E) (ks : List K) (g3 : Nat) (v v2 : Value) (j : Nat) (wr : World) : Prop :=
  ∃ done : List E, done.length = j ∧ done.map pe = (es.take j).map pe ∧ Blk wr g3 87 #[.bool lf, v, v2] ∧ w.heap.size + 1 < g3 ∧ wr.ownsRow (w.heap.size + 2) 47 2 v es.length (cellsE (done ++ es.drop j)) ∧ wr.ownsRow (w.heap.size + 2) 162 5 v2 ks.length (cellsK ks) ∧
    (∀ x ∈ done, OwnVF wr (fun g => w.heap.size + 2 ≤ g ∧ g < wr.heap.size ∧ some g ≠ v.ownBlock) x) ∧ (∀ g, v.ownBlock = some g → v2.ownBlock ≠ some g ∧ g ≠ g3) ∧ (∀ g, v2.ownBlock = some g → g ≠ g3) ∧ Blk wr (w.heap.size + 1) 87 #[.bool false, .slice none 0 0, .slice none 0 0] ∧ Below w.heap.size w wr

def three (w : World) (g : Nat) (a b c : Value) : World := ((w.setCell ⟨g, 0, none⟩ a).setCell ⟨g, 1, none⟩ b).setCell ⟨g, 2, none⟩ c
theorem three_heap (w : World) (g : Nat) (a b c : Value) (k : Nat) (h : k ≠ g) : (three w g a b c).heap[k]? = w.heap[k]? := by
  unfold three
  rw [Below.heap_setCell _ _ _ _ (by simpa using h), Below.heap_setCell _ _ _ _ (by simpa using h), Below.heap_setCell _ _ _ _ (by simpa using h)]
theorem three_size (w : World) (g : Nat) (a b c : Value) : (three w g a b c).heap.size = w.heap.size := by simp [three]
theorem three_below {B g : Nat} {a w : World} (h : Below B a w) (hg : B ≤ g) (u v x : Value) : Below B a (three w g u v x) := ((h.setCell (p := ⟨g, 0, none⟩) hg u).setCell (p := ⟨g, 1, none⟩) hg v).setCell (p := ⟨g, 2, none⟩) hg x
theorem three_blk {w : World} {g : Nat} {t : TypeId} {x y z : Value} (h : Blk w g t #[x, y, z]) (a b c : Value) : Blk (three w g a b c) g t #[a, b, c] := ((h.put 0 a).put 1 b).put 2 c
theorem CL.first {w W w9 : World} {lf : Bool} {es : List E} {ks : List K} {g3 lo lo' : Nat} {v v2 : Value} (bW : Below w.heap.size w W) (l2 : Hid (W.heap.size = w.heap.size + 2)) (k2 : Blk W (w.heap.size + 1) 87 #[.bool false, .slice none 0 0, .slice none 0 0]) (hb : Below W.heap.size W w9)
    (hG : Blk w9 g3 87 #[.bool false, .slice none 0 0, .slice none 0 0]) (hg : W.heap.size ≤ g3) (hE : w9.ownsRow lo 47 2 v es.length (cellsE es)) (hK : w9.ownsRow lo' 162 5 v2 ks.length (cellsK ks))
    (hE1 : ∀ g, v.ownBlock = some g → W.heap.size ≤ g ∧ g ≠ g3) (hK1 : ∀ g, v2.ownBlock = some g → W.heap.size ≤ g ∧ g ≠ g3) (hne : ∀ g, v.ownBlock = some g → v2.ownBlock ≠ some g) :
    ∃ g3' v' v2', (Value.pointer (some ⟨g3, 0, none⟩)) = .pointer (some ⟨g3', 0, none⟩) ∧ CL w lf es ks g3' v' v2' 0 (three w9 g3 (.bool lf) v v2) := by
  have l2 := l2.out
  refine ⟨g3, v, v2, rfl, [], rfl, rfl, three_blk hG _ _ _, by omega, ?_, ?_, (fun x hx => by cases hx), fun g hg => ⟨hne g hg, (hE1 g hg).2⟩, fun g hg => (hK1 g hg).2, ?_, ?_⟩
  · exact ownsRow_base (ownsRow_agree hE fun g hg => three_heap _ _ _ _ _ _ (hE1 g hg).2) fun g hg => by have := (hE1 g hg).1; omega
  · exact ownsRow_base (ownsRow_agree hK fun g hg => three_heap _ _ _ _ _ _ (hK1 g hg).2) fun g hg => by have := (hK1 g hg).1; omega
  · exact (three_heap _ _ _ _ _ _ (by omega)).trans ((hb.block _ k2.lt).trans k2)
  · exact three_below (bW.trans (hb.mono bW.size)) (by omega) _ _ _

theorem CL.step {w wr w1 : World} {lf : Bool} {es : List E} {ks : List K} {g3 gE cap j : Nat} {v2 : Value} {A' : Option Addr} {c' : Nat} (hC : CL w lf es ks g3 (.slice (some ⟨gE, 0, none⟩) es.length cap) v2 j wr) (hlt : j < es.length) (hb : Below wr.heap.size wr w1)
    (hx : OwnVF w1 (fun g => wr.heap.size ≤ g ∧ g < w1.heap.size) ⟨es[j].s, es[j].l, A', c'⟩) :
    CL w lf es ks g3 (.slice (some ⟨gE, 0, none⟩) es.length cap) v2 (j + 1) ((w1.setCell ⟨gE, j * 2, none⟩ (.string es[j].s)).setCell ⟨gE, j * 2 + 1, none⟩ (.slice A' es[j].l.length c')) := by
  obtain ⟨done, hd1, hd2, kN, hg3, hE, hK, hD, hne, hne2, k2, bw⟩ := hC
  have hgE := hE.lt gE rfl
  have hs := hb.size
  have hfar : ∀ k, k ≠ gE → ((w1.setCell ⟨gE, j * 2, none⟩ (.string es[j].s)).setCell ⟨gE, j * 2 + 1, none⟩ (.slice A' es[j].l.length c')).heap[k]? = w1.heap[k]? := fun k hk => by
    rw [Below.heap_setCell _ _ _ _ (by simpa using hk), Below.heap_setCell _ _ _ _ (by simpa using hk)]
  have hdr : es.drop j = es[j] :: es.drop (j + 1) := List.drop_eq_getElem_cons hlt
  refine ⟨done ++ [⟨es[j].s, es[j].l, A', c'⟩], by simp [hd1], ?_, ?_, hg3, ?_, ?_, ?_, ?_, hne2, ?_, ?_⟩
  · rw [List.map_append, hd2, List.take_succ_eq_append_getElem hlt, List.map_append]; rfl
  · exact (hfar _ (fun e => (hne gE rfl).2 e.symm)).trans ((hb.block _ kN.lt).trans kN)
  · have h1 := ((row_below hE hb).stored (j * 2) (.string es[j].s)).1
    have h2 := (h1.stored (j * 2 + 1) (.slice A' es[j].l.length c')).1
    rw [hdr] at h2
    have h3 := cellsE_set done (es.drop (j + 1)) es[j] ⟨es[j].s, es[j].l, A', c'⟩
    rw [hd1] at h3
    rw [h3] at h2
    rw [List.append_assoc]
    exact h2
  · exact ownsRow_agree (row_below hK hb) fun g hg => hfar g (fun e => (hne gE rfl).1 (e ▸ hg))
  · intro x hx'
    have hz : ((w1.setCell ⟨gE, j * 2, none⟩ (.string es[j].s)).setCell ⟨gE, j * 2 + 1, none⟩ (.slice A' es[j].l.length c')).heap.size = w1.heap.size := by simp
    rw [hz]
    rcases List.mem_append.1 hx' with h | h
    · refine ((hD x h).agree (fun g hg => ?_)).mono fun g hg => ⟨hg.1, Nat.lt_of_lt_of_le hg.2.1 hs, hg.2.2⟩
      exact (hfar g (fun e => hg.2.2 (by rw [e]; rfl))).trans (hb.block g hg.2.1)
    · rw [List.mem_singleton.1 h]
      refine (hx.agree (fun g hg => hfar g (by omega))).mono fun g hg => ⟨by have := bw.size; omega, hg.2, fun e => ?_⟩
      simp [Value.ownBlock] at e
      omega
  · intro g hg
    exact hne g hg
  · exact (hfar _ (by omega)).trans ((hb.block _ k2.lt).trans k2)
  · exact ((bw.trans (hb.mono bw.size)).setCell (p := ⟨gE, j * 2, none⟩) (by simp only; omega) _).setCell (p := ⟨gE, j * 2 + 1, none⟩) (by simp only; omega) _
theorem CL.below {w wr w1 : World} {lf : Bool} {es : List E} {ks : List K} {g3 j : Nat} {v v2 : Value} (hC : CL w lf es ks g3 v v2 j wr) (hb : Below wr.heap.size wr w1) : CL w lf es ks g3 v v2 j w1 := by
  obtain ⟨done, hd1, hd2, kN, hg3, hE, hK, hD, hne, hne2, k2, bw⟩ := hC
  exact ⟨done, hd1, hd2, kN.below hb kN.lt, hg3, row_below hE hb, row_below hK hb, fun x hx => ((hD x hx).agree fun g hg => hb.block g hg.2.1).mono fun g hg => ⟨hg.1, Nat.lt_of_lt_of_le hg.2.1 hb.size, hg.2.2⟩, hne, hne2, k2.below hb k2.lt, bw.trans (hb.mono bw.size)⟩
theorem CL.at_ {w wr : World} {lf : Bool} {es : List E} {ks : List K} {g3 gE cap j : Nat} {v2 : Value} (hC : CL w lf es ks g3 (.slice (some ⟨gE, 0, none⟩) es.length cap) v2 j wr) (hlt : j < es.length) :
    (wr.cell? ⟨gE, j * 2, none⟩ = some (.string es[j].s) ∧ wr.cell? ⟨gE, j * 2 + 1, none⟩ = some (.slice es[j].A es[j].l.length es[j].c)) ∧ (wr.frozen? ⟨gE, j * 2, none⟩ = false ∧ wr.frozen? ⟨gE, j * 2 + 1, none⟩ = false) ∧ gE < wr.heap.size ∧ w.heap.size + 2 ≤ gE := by
  obtain ⟨done, hd1, hd2, kN, hg3, hE, hK, hD, hne, hne2, k2, bw⟩ := hC
  have hdr : es.drop j = es[j] :: es.drop (j + 1) := List.drop_eq_getElem_cons hlt
  have hc0 := hE.cellAt (j * 2) (by omega)
  have hc1 := hE.cellAt (j * 2 + 1) (by omega)
  have hl : j < (done ++ es.drop j).length := by simp; omega
  have hget : (done ++ es.drop j)[j]'hl = es[j] := by
    rw [List.getElem_append_right (by omega)]
    simp [hd1]
  obtain ⟨e0, e1⟩ := cellsE_at (done ++ es.drop j) hl
  rw [hget] at e0 e1
  rw [show 2 * j = j * 2 by omega] at e0 e1
  exact ⟨⟨hc0.trans e0, hc1.trans e1⟩, ⟨hE.frozenAt _, hE.frozenAt _⟩, (hE.lt gE rfl).2, (hE.lt gE rfl).1⟩
theorem CL.done {w wr : World} {lf : Bool} {es : List E} {ks : List K} {g3 : Nat} {A1 Q1 : Option Addr} {c1 m1 : Nat} (hC : CL w lf es ks g3 (.slice A1 es.length c1) (.slice Q1 ks.length m1) es.length wr) {A Q : Option Addr} {c m : Nat} (hv : Es w w.heap.size es A c) (hk : Ks w w.heap.size ks Q m) :
    ∃ y : N, Ending.returned (.agg #[.bool lf, .slice A1 es.length c1, .slice Q1 ks.length m1]) = .returned y.val ∧ y.p = (lf, es.map pe, ks) ∧ OwnNF (three wr (w.heap.size + 1) (.bool lf) (.slice A1 es.length c1) (.slice Q1 ks.length m1)) (fun g => w.heap.size ≤ g ∧ g < (three wr (w.heap.size + 1) (.bool lf) (.slice A1 es.length c1) (.slice Q1 ks.length m1)).heap.size) y ∧ Below w.heap.size w (three wr (w.heap.size + 1) (.bool lf) (.slice A1 es.length c1) (.slice Q1 ks.length m1)) := by
  obtain ⟨done, hd1, hd2, kN, hg3, hE, hK, hD, hne, hne2, k2, bw⟩ := hC
  rw [List.take_of_length_le (Nat.le_refl _)] at hd2
  rw [List.drop_of_length_le (Nat.le_refl _), List.append_nil] at hE
  have hsz : (three wr (w.heap.size + 1) (.bool lf) (.slice A1 es.length c1) (.slice Q1 ks.length m1)).heap.size = wr.heap.size := three_size _ _ _ _ _
  have hfar : ∀ g, w.heap.size + 2 ≤ g → (three wr (w.heap.size + 1) (.bool lf) (.slice A1 es.length c1) (.slice Q1 ks.length m1)).heap[g]? = wr.heap[g]? := fun g hg => three_heap _ _ _ _ _ _ (by omega)
  refine ⟨⟨lf, done, ks, A1, c1, Q1, m1⟩, by simp [hd1], by simp [N.p, hd2], ⟨?_, ?_, ?_⟩, three_below bw (by omega) _ _ _⟩
  · simp only [hd1]
    refine ⟨?_, ?_, ?_, ?_⟩
    · rw [hd1]
      exact ownsRow_base (ownsRow_agree hE fun g hg => hfar g (hE.lt g hg).1) fun _ _ => Nat.zero_le _
    · rw [hd1]; exact hv.2.1
    · intro g hg; have := hE.lt g hg; rw [hsz]; omega
    · intro x hx
      refine ⟨((hD x hx).agree fun g hg => hfar g hg.1).mono fun g hg => ⟨⟨by omega, by rw [hsz]; exact hg.2.1⟩, hg.2.2⟩, ?_⟩
      have hp : pe x ∈ es.map pe := by rw [← hd2]; exact List.mem_map_of_mem hx
      obtain ⟨z, hz, e⟩ := List.mem_map.1 hp
      have := (hv.2.2.2.2 z hz).2
      have e2 : z.s = x.s := congrArg Prod.fst e
      rw [← e2]; exact this
  · refine ⟨ownsRow_base (ownsRow_agree hK fun g hg => hfar g (hK.lt g hg).1) fun _ _ => Nat.zero_le _, hk.2.1, ?_, hk.2.2.2.2⟩
    intro g hg; have := hK.lt g hg; rw [hsz]; omega
  · intro g hg
    simp only [hd1] at hg
    exact (hne g hg).1

set_option maxRecDepth 100000 in
set_option maxHeartbeats 2000000 in
theorem copied_any (lf : Bool) (es : List E) (ks : List K) (A : Option Addr) (c : Nat) (Q : Option Addr) (m : Nat) (w : World) (hv : Es w w.heap.size es A c) (hk : Ks w w.heap.size ks Q m) :
    Calls Try.prog 182 #[.agg #[.bool lf, .slice A es.length c, .slice Q ks.length m]] w fun e w' => ∃ y : N, e = .returned y.val ∧ y.p = (lf, es.map pe, ks) ∧ OwnNF w' (fun g => w.heap.size ≤ g ∧ g < w'.heap.size) y ∧ Below w.heap.size w w' := by
  have k1 := (Blk.new w 87 #[.bool lf, .slice A es.length c, .slice Q ks.length m]).alloc (.cells #[.bool false, .slice none 0 0, .slice none 0 0] 87)
  have k2 := Blk.new (w.alloc (.cells #[.bool lf, .slice A es.length c, .slice Q ks.length m] 87)) 87 #[.bool false, .slice none 0 0, .slice none 0 0]
  have bW : Below w.heap.size w ((w.alloc (.cells #[.bool lf, .slice A es.length c, .slice Q ks.length m] 87)).alloc (.cells #[.bool false, .slice none 0 0, .slice none 0 0] 87)) := ((Below.refl _ _).alloc (Nat.le_refl _) _).alloc (by simp) _
  have l2 := vers.lay (show ((w.alloc (.cells #[.bool lf, .slice A es.length c, .slice Q ks.length m] 87)).alloc (.cells #[.bool false, .slice none 0 0, .slice none 0 0] 87)).heap.size = w.heap.size + 2 by simp)
  rw [World.size_alloc] at k2
  go_enter Try.func182, Try.ntmps182
  go_wp2_with fail
  generalize (w.alloc (.cells #[.bool lf, .slice A es.length c, .slice Q ks.length m] 87)).alloc (.cells #[.bool false, .slice none 0 0, .slice none 0 0] 87) = W at *
  have x0 := k1.cell 0
  have x1 := k1.cell 1
  have x2 := k1.cell 2
  have l0 := k1.lt
  clear k1
  simp at x0 x1 x2
  go_cut [3] (fun s3 wx => ∃ g3 v v2, s3 = .pointer (some ⟨g3, 0, none⟩) ∧ CL w lf es ks g3 v v2 0 wx)
  case first =>
    have hS0 : Below W.heap.size W W.drew := (Below.refl _ _).drew
    refine mix.region_D (fun w' => Below W.heap.size W w') (fun j => j == 10) (by kernel_rfl) ?_
    generalize W.drew = Wd at hS0 ⊢
    refine mix.D_take (i := 0) (v := ?_) rfl (by kernel_rfl) (by kernel_rfl) (fun _ _ _ h => h) (Or.inl ⟨by rfl, ?_⟩) hS0 ?_
    rotate_left
    · intro w' hSw
      have y0 := (hSw.cell (p := ⟨w.heap.size, 0, none⟩) l0).trans x0
      have y1 := (hSw.cell (p := ⟨w.heap.size, 1, none⟩) l0).trans x1
      have y2 := (hSw.cell (p := ⟨w.heap.size, 2, none⟩) l0).trans x2
      try simp only [List.getElem_toArray, List.getElem_cons_zero, List.getElem_cons_succ]
      go_simp
      exact rfl
    try simp only [Act.put, List.setIfInBounds_toArray, List.set_cons_zero, List.set_cons_succ, List.getElem_toArray, List.getElem_cons_zero, List.getElem_cons_succ]
    refine mix.D_take (i := 1) (v := ?_) rfl (by kernel_rfl) (by kernel_rfl) (fun _ _ _ h => h) (Or.inl ⟨by rfl, ?_⟩) hS0 ?_
    rotate_left
    · intro w' hSw
      have y0 := (hSw.cell (p := ⟨w.heap.size, 0, none⟩) l0).trans x0
      have y1 := (hSw.cell (p := ⟨w.heap.size, 1, none⟩) l0).trans x1
      have y2 := (hSw.cell (p := ⟨w.heap.size, 2, none⟩) l0).trans x2
      try simp only [List.getElem_toArray, List.getElem_cons_zero, List.getElem_cons_succ]
      go_simp
      exact rfl
    try simp only [Act.put, List.setIfInBounds_toArray, List.set_cons_zero, List.set_cons_succ, List.getElem_toArray, List.getElem_cons_zero, List.getElem_cons_succ]
    refine mix.D_take (i := 2) (v := ?_) rfl (by kernel_rfl) (by kernel_rfl) (fun _ _ _ h => h) (Or.inl ⟨by rfl, ?_⟩) hS0 ?_
    rotate_left
    · intro w' hSw
      have y0 := (hSw.cell (p := ⟨w.heap.size, 0, none⟩) l0).trans x0
      have y1 := (hSw.cell (p := ⟨w.heap.size, 1, none⟩) l0).trans x1
      have y2 := (hSw.cell (p := ⟨w.heap.size, 2, none⟩) l0).trans x2
      try simp only [List.getElem_toArray, List.getElem_cons_zero, List.getElem_cons_succ]
      go_simp
      exact rfl
    try simp only [Act.put, List.setIfInBounds_toArray, List.set_cons_zero, List.set_cons_succ, List.getElem_toArray, List.getElem_cons_zero, List.getElem_cons_succ]
    refine mix.D_take (i := 3) (v := ?_) rfl (by kernel_rfl) (by kernel_rfl) (fun _ _ _ h => h) (Or.inl ⟨by rfl, ?_⟩) hS0 ?_
    rotate_left
    · intro w' hSw
      have y0 := (hSw.cell (p := ⟨w.heap.size, 0, none⟩) l0).trans x0
      have y1 := (hSw.cell (p := ⟨w.heap.size, 1, none⟩) l0).trans x1
      have y2 := (hSw.cell (p := ⟨w.heap.size, 2, none⟩) l0).trans x2
      try simp only [List.getElem_toArray, List.getElem_cons_zero, List.getElem_cons_succ]
      go_simp
      exact rfl
    try simp only [Act.put, List.setIfInBounds_toArray, List.set_cons_zero, List.set_cons_succ, List.getElem_toArray, List.getElem_cons_zero, List.getElem_cons_succ]
    refine mix.D_take (i := 5) (v := ?_) rfl (by kernel_rfl) (by kernel_rfl) (fun _ _ _ h => h) (Or.inl ⟨by rfl, ?_⟩) hS0 ?_
    rotate_left
    · intro w' hSw
      have y0 := (hSw.cell (p := ⟨w.heap.size, 0, none⟩) l0).trans x0
      have y1 := (hSw.cell (p := ⟨w.heap.size, 1, none⟩) l0).trans x1
      have y2 := (hSw.cell (p := ⟨w.heap.size, 2, none⟩) l0).trans x2
      try simp only [List.getElem_toArray, List.getElem_cons_zero, List.getElem_cons_succ]
      go_simp
      exact rfl
    try simp only [Act.put, List.setIfInBounds_toArray, List.set_cons_zero, List.set_cons_succ, List.getElem_toArray, List.getElem_cons_zero, List.getElem_cons_succ]
    refine mix.D_take (i := 6) (v := ?_) rfl (by kernel_rfl) (by kernel_rfl) (fun _ _ _ h => h) (Or.inl ⟨by rfl, ?_⟩) hS0 ?_
    rotate_left
    · intro w' hSw
      have y0 := (hSw.cell (p := ⟨w.heap.size, 0, none⟩) l0).trans x0
      have y1 := (hSw.cell (p := ⟨w.heap.size, 1, none⟩) l0).trans x1
      have y2 := (hSw.cell (p := ⟨w.heap.size, 2, none⟩) l0).trans x2
      try simp only [List.getElem_toArray, List.getElem_cons_zero, List.getElem_cons_succ]
      go_simp
      exact rfl
    try simp only [Act.put, List.setIfInBounds_toArray, List.set_cons_zero, List.set_cons_succ, List.getElem_toArray, List.getElem_cons_zero, List.getElem_cons_succ]
    refine mix.D_two (k := 4) (j := 9) rfl rfl rfl rfl (by kernel_rfl) (fun K' hK => ?_) (fun K' hK => ?_)
    · simp only [List.getElem_toArray, List.getElem_cons_zero, List.getElem_cons_succ]
      go_wp2_with fail
      refine (cloneE_any A es.length c (cellsE es) (fun g => g < w.heap.size) _ (by rw [cellsE_len]; omega) (RdF.of_rd ((hv.2.2.2.1).keep fun _ hp => (bW.trans (hS0.mono bW.size)).cell hp)) (fun h => by have h1 := hv.1; have h2 := hv.2.2.1 h; omega) (cellsE_one es) hv.2.1).mono ?_
      rintro e wb1 ⟨v1, rfl, kE1, hs1⟩
      obtain ⟨A1, c1, rfl, _, _, _⟩ := row_rdF kE1
      have hE1 := kE1.lt
      have hb1 : Below W.heap.size W wb1 := hS0.trans (hs1.mono hS0.size)
      refine hK.out _ _ (fun _ => hb1) ?_
      clear hK K'
      try simp only [Act.put, List.setIfInBounds_toArray, List.set_cons_zero, List.set_cons_succ]
      refine mix.D_two (k := 7) (j := 9) rfl rfl rfl rfl (by kernel_rfl) (fun K' hK => ?_) (fun K' hK => ?_)
      · simp only [List.getElem_toArray, List.getElem_cons_zero, List.getElem_cons_succ]
        go_wp2_with fail
        refine (cloneK_any Q ks.length m (cellsK ks) (fun g => g < w.heap.size) _ (by rw [cellsK_len]; omega) (RdF.of_rd ((hk.2.2.2.1).keep fun _ hp => (bW.trans (hb1.mono bW.size)).cell hp)) (fun h => by have h1 := hk.1; have h2 := hk.2.2.1 h; omega) (cellsK_one ks) hk.2.1).mono ?_
        rintro e wb2 ⟨v2, rfl, kK2, hs2⟩
        obtain ⟨Q1, m1, rfl, _, _, _⟩ := row_rdF kK2
        have hK2 := kK2.lt
        have kE2 := row_below kE1 hs2
        have hb2 : Below W.heap.size W wb2 := hb1.trans (hs2.mono hb1.size)
        refine hK.out _ _ (fun _ => hb2) ?_
        clear hK K'
        try simp only [Act.put, List.setIfInBounds_toArray, List.set_cons_zero, List.set_cons_succ]
        refine mix.D_take (i := 8) (v := ?_) rfl (by kernel_rfl) (by kernel_rfl) (fun _ _ _ h => h) (Or.inl ⟨by rfl, ?_⟩) hb2 ?_
        rotate_left
        · intro w' hSw
          have y0 := (hSw.cell (p := ⟨w.heap.size, 0, none⟩) l0).trans x0
          have y1 := (hSw.cell (p := ⟨w.heap.size, 1, none⟩) l0).trans x1
          have y2 := (hSw.cell (p := ⟨w.heap.size, 2, none⟩) l0).trans x2
          try simp only [List.getElem_toArray, List.getElem_cons_zero, List.getElem_cons_succ]
          go_simp
          exact rfl
        try simp only [Act.put, List.setIfInBounds_toArray, List.set_cons_zero, List.set_cons_succ, List.getElem_toArray, List.getElem_cons_zero, List.getElem_cons_succ]
        refine mix.D_op (k := 9) rfl rfl (by kernel_rfl) (fun K' hK => ?_)
        simp only [List.getElem_toArray, List.getElem_cons_zero, List.getElem_cons_succ]
        go_wp2_with fail
        have hs3 : Below wb2.heap.size wb2 (wb2.alloc (.cells #[.bool false, .slice none 0 0, .slice none 0 0] 87)) := (Below.refl _ _).alloc (Nat.le_refl _) _
        have kG3 := Blk.new wb2 87 #[.bool false, .slice none 0 0, .slice none 0 0]
        have hsz3 : wb2.heap.size < (wb2.alloc (.cells #[.bool false, .slice none 0 0, .slice none 0 0] 87)).heap.size := by simp
        have hg3 := vers.lay (rfl : wb2.heap.size = wb2.heap.size)
        generalize wb2.alloc (.cells #[.bool false, .slice none 0 0, .slice none 0 0] 87) = wa3 at hs3 kG3 hsz3 ⊢
        have kE3 := row_below kE2 hs3
        have kK3 := row_below kK2 hs3
        have hb3 : Below W.heap.size W wa3 := hb2.trans (hs3.mono hb2.size)
        refine hK.out _ _ (fun _ => hb3) ?_
        clear hK K'
        try simp only [Act.put, List.setIfInBounds_toArray, List.set_cons_zero, List.set_cons_succ]
        refine mix.D_op (k := 10) rfl rfl (by kernel_rfl) (fun K' hK => ?_)
        simp only [List.getElem_toArray, List.getElem_cons_zero, List.getElem_cons_succ]
        have z0 := kG3.cell 0
        have z1 := kG3.cell 1
        have z2 := kG3.cell 2
        simp at z0 z1 z2
        have f0 := kG3.frozen 0
        have f1 := kG3.frozen 1
        have f2 := kG3.frozen 2
        have f3 := kG3.lt
        have hg3 : W.heap.size ≤ wb2.heap.size := hb2.size
        have hEf : ∀ g, (Value.slice A1 es.length c1).ownBlock = some g → W.heap.size ≤ g ∧ g ≠ wb2.heap.size := fun g hg => by have e1 := hE1 g hg; have e2 := hS0.size; skip; have s1 := hs1.size; have s2 := hs2.size; have s3 := hs3.size; have t3 := hsz3; omega
        have hKf : ∀ g, (Value.slice Q1 ks.length m1).ownBlock = some g → W.heap.size ≤ g ∧ g ≠ wb2.heap.size := fun g hg => by have e1 := hK2 g hg; have e2 := hb1.size; skip; have s1 := hs1.size; have s2 := hs2.size; have s3 := hs3.size; have t3 := hsz3; omega
        have hNf : ∀ g, (Value.slice A1 es.length c1).ownBlock = some g → (Value.slice Q1 ks.length m1).ownBlock ≠ some g := fun g hg hg2 => by have e1 := hE1 g hg; have e3 := hK2 g hg2; skip; have s1 := hs1.size; have s2 := hs2.size; have s3 := hs3.size; have t3 := hsz3; omega
        have hfin := CL.first (lf := lf) bW l2 k2 hb3 kG3 hg3 kE3 kK3 hEf hKf hNf
        clear hEf hKf hNf hg3 hv hk
        go_wp2_with fail
        refine hK.out _ _ (fun h => by simp at h) ?_
        clear hK K'
        refine mix.D_done (by kernel_rfl) ?_ _
        go_wp2_with fail
        go_meet
        exact hfin
      · simp only [List.getElem_toArray, List.getElem_cons_zero, List.getElem_cons_succ]
        go_wp2_with fail
        have hs5 : Below wb1.heap.size wb1 (wb1.alloc (.cells #[.bool false, .slice none 0 0, .slice none 0 0] 87)) := (Below.refl _ _).alloc (Nat.le_refl _) _
        have kG5 := Blk.new wb1 87 #[.bool false, .slice none 0 0, .slice none 0 0]
        have hsz5 : wb1.heap.size < (wb1.alloc (.cells #[.bool false, .slice none 0 0, .slice none 0 0] 87)).heap.size := by simp
        have hg5 := vers.lay (rfl : wb1.heap.size = wb1.heap.size)
        generalize wb1.alloc (.cells #[.bool false, .slice none 0 0, .slice none 0 0] 87) = wa5 at hs5 kG5 hsz5 ⊢
        have kE5 := row_below kE1 hs5
        have hb5 : Below W.heap.size W wa5 := hb1.trans (hs5.mono hb1.size)
        refine hK.out _ _ (fun _ => hb5) ?_
        clear hK K'
        try simp only [Act.put, List.setIfInBounds_toArray, List.set_cons_zero, List.set_cons_succ]
        refine mix.D_op (k := 7) rfl rfl (by kernel_rfl) (fun K' hK => ?_)
        simp only [List.getElem_toArray, List.getElem_cons_zero, List.getElem_cons_succ]
        go_wp2_with fail
        refine (cloneK_any Q ks.length m (cellsK ks) (fun g => g < w.heap.size) _ (by rw [cellsK_len]; omega) (RdF.of_rd ((hk.2.2.2.1).keep fun _ hp => (bW.trans (hb5.mono bW.size)).cell hp)) (fun h => by have h1 := hk.1; have h2 := hk.2.2.1 h; omega) (cellsK_one ks) hk.2.1).mono ?_
        rintro e wb6 ⟨v2, rfl, kK6, hs6⟩
        obtain ⟨Q1, m1, rfl, _, _, _⟩ := row_rdF kK6
        have hK6 := kK6.lt
        have kE6 := row_below kE5 hs6
        have kG6 := kG5.below hs6 kG5.lt
        have hb6 : Below W.heap.size W wb6 := hb5.trans (hs6.mono hb5.size)
        refine hK.out _ _ (fun _ => hb6) ?_
        clear hK K'
        try simp only [Act.put, List.setIfInBounds_toArray, List.set_cons_zero, List.set_cons_succ]
        refine mix.D_take (i := 8) (v := ?_) rfl (by kernel_rfl) (by kernel_rfl) (fun _ _ _ h => h) (Or.inl ⟨by rfl, ?_⟩) hb6 ?_
        rotate_left
        · intro w' hSw
          have y0 := (hSw.cell (p := ⟨w.heap.size, 0, none⟩) l0).trans x0
          have y1 := (hSw.cell (p := ⟨w.heap.size, 1, none⟩) l0).trans x1
          have y2 := (hSw.cell (p := ⟨w.heap.size, 2, none⟩) l0).trans x2
          try simp only [List.getElem_toArray, List.getElem_cons_zero, List.getElem_cons_succ]
          go_simp
          exact rfl
        try simp only [Act.put, List.setIfInBounds_toArray, List.set_cons_zero, List.set_cons_succ, List.getElem_toArray, List.getElem_cons_zero, List.getElem_cons_succ]
        refine mix.D_op (k := 10) rfl rfl (by kernel_rfl) (fun K' hK => ?_)
        simp only [List.getElem_toArray, List.getElem_cons_zero, List.getElem_cons_succ]
        have z0 := kG6.cell 0
        have z1 := kG6.cell 1
        have z2 := kG6.cell 2
        simp at z0 z1 z2
        have f0 := kG6.frozen 0
        have f1 := kG6.frozen 1
        have f2 := kG6.frozen 2
        have f3 := kG6.lt
        have hg3 : W.heap.size ≤ wb1.heap.size := hb1.size
        have hEf : ∀ g, (Value.slice A1 es.length c1).ownBlock = some g → W.heap.size ≤ g ∧ g ≠ wb1.heap.size := fun g hg => by have e1 := hE1 g hg; have e2 := hS0.size; skip; have s1 := hs1.size; have s5 := hs5.size; have t5 := hsz5; have s6 := hs6.size; omega
        have hKf : ∀ g, (Value.slice Q1 ks.length m1).ownBlock = some g → W.heap.size ≤ g ∧ g ≠ wb1.heap.size := fun g hg => by have e1 := hK6 g hg; have e2 := hb5.size; skip; have s1 := hs1.size; have s5 := hs5.size; have t5 := hsz5; have s6 := hs6.size; omega
        have hNf : ∀ g, (Value.slice A1 es.length c1).ownBlock = some g → (Value.slice Q1 ks.length m1).ownBlock ≠ some g := fun g hg hg2 => by have e1 := hE1 g hg; have e3 := hK6 g hg2; skip; have s1 := hs1.size; have s5 := hs5.size; have t5 := hsz5; have s6 := hs6.size; omega
        have hfin := CL.first (lf := lf) bW l2 k2 hb6 kG6 hg3 kE6 kK6 hEf hKf hNf
        clear hEf hKf hNf hg3 hv hk
        go_wp2_with fail
        refine hK.out _ _ (fun h => by simp at h) ?_
        clear hK K'
        refine mix.D_done (by kernel_rfl) ?_ _
        go_wp2_with fail
        go_meet
        exact hfin
    · simp only [List.getElem_toArray, List.getElem_cons_zero, List.getElem_cons_succ]
      go_wp2_with fail
      have hs8 : Below Wd.heap.size Wd (Wd.alloc (.cells #[.bool false, .slice none 0 0, .slice none 0 0] 87)) := (Below.refl _ _).alloc (Nat.le_refl _) _
      have kG8 := Blk.new Wd 87 #[.bool false, .slice none 0 0, .slice none 0 0]
      have hsz8 : Wd.heap.size < (Wd.alloc (.cells #[.bool false, .slice none 0 0, .slice none 0 0] 87)).heap.size := by simp
      have hg8 := vers.lay (rfl : Wd.heap.size = Wd.heap.size)
      generalize Wd.alloc (.cells #[.bool false, .slice none 0 0, .slice none 0 0] 87) = wa8 at hs8 kG8 hsz8 ⊢
      have hb8 : Below W.heap.size W wa8 := hS0.trans (hs8.mono hS0.size)
      refine hK.out _ _ (fun _ => hb8) ?_
      clear hK K'
      try simp only [Act.put, List.setIfInBounds_toArray, List.set_cons_zero, List.set_cons_succ]
      refine mix.D_op (k := 4) rfl rfl (by kernel_rfl) (fun K' hK => ?_)
      simp only [List.getElem_toArray, List.getElem_cons_zero, List.getElem_cons_succ]
      go_wp2_with fail
      refine (cloneE_any A es.length c (cellsE es) (fun g => g < w.heap.size) _ (by rw [cellsE_len]; omega) (RdF.of_rd ((hv.2.2.2.1).keep fun _ hp => (bW.trans (hb8.mono bW.size)).cell hp)) (fun h => by have h1 := hv.1; have h2 := hv.2.2.1 h; omega) (cellsE_one es) hv.2.1).mono ?_
      rintro e wb9 ⟨v1, rfl, kE9, hs9⟩
      obtain ⟨A1, c1, rfl, _, _, _⟩ := row_rdF kE9
      have hE9 := kE9.lt
      have kG9 := kG8.below hs9 kG8.lt
      have hb9 : Below W.heap.size W wb9 := hb8.trans (hs9.mono hb8.size)
      refine hK.out _ _ (fun _ => hb9) ?_
      clear hK K'
      try simp only [Act.put, List.setIfInBounds_toArray, List.set_cons_zero, List.set_cons_succ]
      refine mix.D_op (k := 7) rfl rfl (by kernel_rfl) (fun K' hK => ?_)
      simp only [List.getElem_toArray, List.getElem_cons_zero, List.getElem_cons_succ]
      go_wp2_with fail
      refine (cloneK_any Q ks.length m (cellsK ks) (fun g => g < w.heap.size) _ (by rw [cellsK_len]; omega) (RdF.of_rd ((hk.2.2.2.1).keep fun _ hp => (bW.trans (hb9.mono bW.size)).cell hp)) (fun h => by have h1 := hk.1; have h2 := hk.2.2.1 h; omega) (cellsK_one ks) hk.2.1).mono ?_
      rintro e wb10 ⟨v2, rfl, kK10, hs10⟩
      obtain ⟨Q1, m1, rfl, _, _, _⟩ := row_rdF kK10
      have hK10 := kK10.lt
      have kG10 := kG9.below hs10 kG9.lt
      have kE10 := row_below kE9 hs10
      have hb10 : Below W.heap.size W wb10 := hb9.trans (hs10.mono hb9.size)
      refine hK.out _ _ (fun _ => hb10) ?_
      clear hK K'
      try simp only [Act.put, List.setIfInBounds_toArray, List.set_cons_zero, List.set_cons_succ]
      refine mix.D_take (i := 8) (v := ?_) rfl (by kernel_rfl) (by kernel_rfl) (fun _ _ _ h => h) (Or.inl ⟨by rfl, ?_⟩) hb10 ?_
      rotate_left
      · intro w' hSw
        have y0 := (hSw.cell (p := ⟨w.heap.size, 0, none⟩) l0).trans x0
        have y1 := (hSw.cell (p := ⟨w.heap.size, 1, none⟩) l0).trans x1
        have y2 := (hSw.cell (p := ⟨w.heap.size, 2, none⟩) l0).trans x2
        try simp only [List.getElem_toArray, List.getElem_cons_zero, List.getElem_cons_succ]
        go_simp
        exact rfl
      try simp only [Act.put, List.setIfInBounds_toArray, List.set_cons_zero, List.set_cons_succ, List.getElem_toArray, List.getElem_cons_zero, List.getElem_cons_succ]
      refine mix.D_op (k := 10) rfl rfl (by kernel_rfl) (fun K' hK => ?_)
      simp only [List.getElem_toArray, List.getElem_cons_zero, List.getElem_cons_succ]
      have z0 := kG10.cell 0
      have z1 := kG10.cell 1
      have z2 := kG10.cell 2
      simp at z0 z1 z2
      have f0 := kG10.frozen 0
      have f1 := kG10.frozen 1
      have f2 := kG10.frozen 2
      have f3 := kG10.lt
      have hg3 : W.heap.size ≤ Wd.heap.size := hS0.size
      have hEf : ∀ g, (Value.slice A1 es.length c1).ownBlock = some g → W.heap.size ≤ g ∧ g ≠ Wd.heap.size := fun g hg => by have e1 := hE9 g hg; have e2 := hb8.size; skip; have s8 := hs8.size; have t8 := hsz8; have s9 := hs9.size; have s10 := hs10.size; omega
      have hKf : ∀ g, (Value.slice Q1 ks.length m1).ownBlock = some g → W.heap.size ≤ g ∧ g ≠ Wd.heap.size := fun g hg => by have e1 := hK10 g hg; have e2 := hb9.size; skip; have s8 := hs8.size; have t8 := hsz8; have s9 := hs9.size; have s10 := hs10.size; omega
      have hNf : ∀ g, (Value.slice A1 es.length c1).ownBlock = some g → (Value.slice Q1 ks.length m1).ownBlock ≠ some g := fun g hg hg2 => by have e1 := hE9 g hg; have e3 := hK10 g hg2; skip; have s8 := hs8.size; have t8 := hsz8; have s9 := hs9.size; have s10 := hs10.size; omega
      have hfin := CL.first (lf := lf) bW l2 k2 hb10 kG10 hg3 kE10 kK10 hEf hKf hNf
      clear hEf hKf hNf hg3 hv hk
      go_wp2_with fail
      refine hK.out _ _ (fun h => by simp at h) ?_
      clear hK K'
      refine mix.D_done (by kernel_rfl) ?_ _
      go_wp2_with fail
      go_meet
      exact hfin
  case rest =>
    obtain ⟨g3, v, v2, rfl, hC⟩ := hcut
    have hvs : ∃ A1 c1, v = .slice A1 es.length c1 := by
      obtain ⟨_, _, _, _, _, hE, _⟩ := id hC
      obtain ⟨A1, c1, e, _⟩ := row_rdF hE
      exact ⟨A1, c1, e⟩
    have hvs2 : ∃ Q1 m1, v2 = .slice Q1 ks.length m1 := by
      obtain ⟨_, _, _, _, _, _, hK, _⟩ := id hC
      obtain ⟨A1, c1, e, _⟩ := row_rdF hK
      exact ⟨A1, c1, e⟩
    obtain ⟨A1, c1, rfl⟩ := hvs
    obtain ⟨Q1, m1, rfl⟩ := hvs2
    have hlen : es.length ≤ 140737488355328 := by have := hv.2.1; omega
    clear x0 x1 x2 l0 k2 bW l2
    obtain ⟨_, _, _, kN, _⟩ := id hC
    have y1 := kN.cell 1
    simp at y1
    go_wp2_with fail
    clear kN y1
    go_loopw [18] (fun i wr => ∃ j : Nat, j ≤ es.length ∧ i = .int .i64 j ∧ CL w lf es ks g3 (.slice A1 es.length c1) (.slice Q1 ks.length m1) j wr) (fun i _ => es.length - (intOf i).toNat)
    case atStart => exact ⟨0, Nat.zero_le _, rfl, hC⟩
    case round =>
      clear hC
      obtain ⟨j, hj, rfl, hC⟩ := hrel
      by_cases hlt : j < es.length
      · obtain ⟨gE, cap, e9, _, _, _⟩ : ∃ g cap, Value.slice A1 es.length c1 = .slice (some ⟨g, 0, none⟩) es.length cap ∧ 0 ≤ g ∧ 0 ≤ cap ∧ True := by
          obtain ⟨_, _, _, _, _, hE, _⟩ := id hC
          obtain ⟨g, cap, e, _⟩ := own_slice_form hE (by omega)
          exact ⟨g, cap, e, Nat.zero_le _, Nat.zero_le _, trivial⟩
        injection e9 with e91 _ e92
        subst e91 e92
        obtain ⟨⟨z0, z1⟩, ⟨f0, f1⟩, hgl, hgE2⟩ := hC.at_ hlt
        obtain ⟨_, _, _, kN, hg3, _, _, _, _, _, k2, bw⟩ := id hC
        have hVj := (hv.2.2.2.2 _ (List.getElem_mem hlt)).1
        have hsj := (hv.2.2.2.2 _ (List.getElem_mem hlt)).2
        have K5 := Blk.new wr 47 #[.string es[j].s, .slice es[j].A es[j].l.length es[j].c]
        have hs5 : Below wr.heap.size wr (wr.alloc (.cells #[.string es[j].s, .slice es[j].A es[j].l.length es[j].c] 47)) := (Below.refl _ _).alloc (Nat.le_refl _) _
        have hz5 : (wr.alloc (.cells #[.string es[j].s, .slice es[j].A es[j].l.length es[j].c] 47)).heap.size = wr.heap.size + 1 := by simp
        have kN5 := kN.below hs5 kN.lt
        have i1 : (0 : Int) ≤ (j : Int) := by omega
        have i2 : (j : Int) < (es.length : Int) := by omega
        have i3 : (es.length : Int) ≤ 140737488355328 := by omega
        go_wp2_with fail
        clear z0 z1 f0 f1 kN
        generalize wr.alloc (.cells #[.string es[j].s, .slice es[j].A es[j].l.length es[j].c] 47) = W5 at hs5 hz5 K5 kN5 ⊢
        have x0 := kN5.cell 1
        have l0 := kN5.lt
        have x1 := K5.cell 0
        have x2 := K5.cell 1
        have l1 := K5.lt
        have bw5 := bw.trans (hs5.mono bw.size)
        simp at x0 x1 x2
        have hS0 : Below W5.heap.size W5 W5.drew := (Below.refl _ _).drew
        refine mix.region_D (fun w' => Below W5.heap.size W5 w') (fun j => j == 6) (by kernel_rfl) ?_
        generalize W5.drew = W5d at hS0 ⊢
        refine mix.D_take (i := 0) (v := ?_) rfl (by kernel_rfl) (by kernel_rfl) (fun _ _ _ h => h) (Or.inl ⟨by rfl, ?_⟩) hS0 ?_
        rotate_left
        · intro w' hSw
          have y0 := (hSw.cell (p := ⟨g3, 1, none⟩) l0).trans x0
          have y1 := (hSw.cell (p := ⟨wr.heap.size, 0, none⟩) l1).trans x1
          have y2 := (hSw.cell (p := ⟨wr.heap.size, 1, none⟩) l1).trans x2
          try simp only [List.getElem_toArray, List.getElem_cons_zero, List.getElem_cons_succ]
          go_simp
          exact rfl
        try simp only [Act.put, List.setIfInBounds_toArray, List.set_cons_zero, List.set_cons_succ, List.getElem_toArray, List.getElem_cons_zero, List.getElem_cons_succ]
        refine mix.D_take (i := 1) (v := ?_) rfl (by kernel_rfl) (by kernel_rfl) (fun _ _ _ h => h) (Or.inl ⟨by rfl, ?_⟩) hS0 ?_
        rotate_left
        · intro w' hSw
          have y0 := (hSw.cell (p := ⟨g3, 1, none⟩) l0).trans x0
          have y1 := (hSw.cell (p := ⟨wr.heap.size, 0, none⟩) l1).trans x1
          have y2 := (hSw.cell (p := ⟨wr.heap.size, 1, none⟩) l1).trans x2
          try simp only [List.getElem_toArray, List.getElem_cons_zero, List.getElem_cons_succ]
          go_simp
          exact rfl
        try simp only [Act.put, List.setIfInBounds_toArray, List.set_cons_zero, List.set_cons_succ, List.getElem_toArray, List.getElem_cons_zero, List.getElem_cons_succ]
        refine mix.D_take (i := 2) (v := ?_) rfl (by kernel_rfl) (by kernel_rfl) (fun _ _ _ h => h) (Or.inl ⟨by rfl, ?_⟩) hS0 ?_
        rotate_left
        · intro w' hSw
          have y0 := (hSw.cell (p := ⟨g3, 1, none⟩) l0).trans x0
          have y1 := (hSw.cell (p := ⟨wr.heap.size, 0, none⟩) l1).trans x1
          have y2 := (hSw.cell (p := ⟨wr.heap.size, 1, none⟩) l1).trans x2
          try simp only [List.getElem_toArray, List.getElem_cons_zero, List.getElem_cons_succ]
          go_simp
          exact rfl
        try simp only [Act.put, List.setIfInBounds_toArray, List.set_cons_zero, List.set_cons_succ, List.getElem_toArray, List.getElem_cons_zero, List.getElem_cons_succ]
        refine mix.D_take (i := 3) (v := ?_) rfl (by kernel_rfl) (by kernel_rfl) (fun _ _ _ h => h) (Or.inl ⟨by rfl, ?_⟩) hS0 ?_
        rotate_left
        · intro w' hSw
          have y0 := (hSw.cell (p := ⟨g3, 1, none⟩) l0).trans x0
          have y1 := (hSw.cell (p := ⟨wr.heap.size, 0, none⟩) l1).trans x1
          have y2 := (hSw.cell (p := ⟨wr.heap.size, 1, none⟩) l1).trans x2
          try simp only [List.getElem_toArray, List.getElem_cons_zero, List.getElem_cons_succ]
          go_simp
          exact rfl
        try simp only [Act.put, List.setIfInBounds_toArray, List.set_cons_zero, List.set_cons_succ, List.getElem_toArray, List.getElem_cons_zero, List.getElem_cons_succ]
        refine mix.D_op (k := 4) rfl rfl (by kernel_rfl) (fun K' hK => ?_)
        simp only [List.getElem_toArray, List.getElem_cons_zero, List.getElem_cons_succ]
        go_wp2_with fail
        refine (copiedEntry_any es[j].s es[j].l es[j].A es[j].c _ ((hVj.below (bw5.trans (hS0.mono bw5.size))).more (bw5.trans (hS0.mono bw5.size)).size)).mono ?_
        rintro e wb1 ⟨A5, c5, rfl, hX1, hs1⟩
        have hb1 : Below W5.heap.size W5 wb1 := hS0.trans (hs1.mono hS0.size)
        refine hK.out _ _ (fun _ => hb1) ?_
        clear hK K'
        try simp only [Act.put, List.setIfInBounds_toArray, List.set_cons_zero, List.set_cons_succ]
        refine mix.D_take (i := 5) (v := ?_) rfl (by kernel_rfl) (by kernel_rfl) (fun _ _ _ h => h) (Or.inl ⟨by rfl, ?_⟩) hb1 ?_
        rotate_left
        · intro w' hSw
          have y0 := (hSw.cell (p := ⟨g3, 1, none⟩) l0).trans x0
          have y1 := (hSw.cell (p := ⟨wr.heap.size, 0, none⟩) l1).trans x1
          have y2 := (hSw.cell (p := ⟨wr.heap.size, 1, none⟩) l1).trans x2
          try simp only [List.getElem_toArray, List.getElem_cons_zero, List.getElem_cons_succ]
          go_simp
          exact rfl
        try simp only [Act.put, List.setIfInBounds_toArray, List.set_cons_zero, List.set_cons_succ, List.getElem_toArray, List.getElem_cons_zero, List.getElem_cons_succ]
        refine mix.D_op (k := 6) rfl rfl (by kernel_rfl) (fun K' hK => ?_)
        simp only [List.getElem_toArray, List.getElem_cons_zero, List.getElem_cons_succ]
        have hstep := CL.step hC hlt (hs5.trans (hb1.mono hs5.size)) ((hX1).mono fun g hg => ⟨by have := hs5.size; have := hS0.size; omega, hg.2⟩)
        obtain ⟨⟨z0, z1⟩, ⟨f0, f1⟩, hgl9, _⟩ := (hC.below (hs5.trans (hb1.mono hs5.size))).at_ hlt
        clear hC
        go_wp2_with fail
        refine hK.out _ _ (fun h => by simp at h) ?_
        clear hK K'
        refine mix.D_done (by kernel_rfl) ?_ _
        go_wp2_with fail
        exact ⟨⟨j + 1, hlt, by go_num, hstep⟩, by simp [intOf]; omega⟩

      · obtain rfl : j = es.length := by omega
        obtain ⟨_, _, _, kN, hg3, _, _, _, _, _, k2, bw⟩ := id hC
        have y0 := kN.cell 0
        have y1 := kN.cell 1
        have y2 := kN.cell 2
        simp at y0 y1 y2
        have f0 := k2.frozen 0
        have f1 := k2.frozen 1
        have f2 := k2.frozen 2
        have z0 := k2.cell 0
        have z1 := k2.cell 1
        have z2 := k2.cell 2
        simp at z0 z1 z2
        have hfin := CL.done hC hv hk
        have l0 := k2.lt
        clear hC kN
        go_wp2_with fail
        refine bodyPost_ret (v := .agg #[.bool lf, .slice A1 es.length c1, .slice Q1 ks.length m1]) (by simp [results, Try.results182, go_sem, z0, z1, z2]) rfl ?_
        exact hfin

end Go.Proofs.Ytoenkkbcpafanaa.trees
