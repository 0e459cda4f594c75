/- What letheref06's Copy answers. -/
import Derived.Test.YtoenkkbcpafanaaTrD
import Derived.Test.YtoenkkbcpafanaaTrG
import Derived.Test.YtoenkkbcpafanaaVerE
import Derived.Test.YtoenkkbcpafanaaMixE
import Derived.Laws.AppendOwnNone
import Derived.Deep.CutBlock
import Derived.Deep.DeepCutAuto


namespace Go.Proofs.Ytoenkkbcpafanaa.nodes
set_option linter.unusedVariables false
set_option linter.unusedSimpArgs false
open Go.RowKit Go.Proofs.Ytoenkkbcpafanaa.base Go.Proofs.Ytoenkkbcpafanaa.quotas Go.Proofs.Ytoenkkbcpafanaa.vers Go.Proofs.Ytoenkkbcpafanaa.trees

section
variable {P : Program}
/-- append of a whole list to a row of the call's own, by blocks -/
theorem wp_bulk {e tS : TypeId} {i0 : TypeInfo} {z : Value} {size bytes : Nat} (hun : P.underlying tS = some (.slice e)) (hi0 : P.info? e = some i0) (hz0 : i0.zero = some z) (hz1 : i0.size = size) (hz2 : i0.bytes = bytes) (hzs : z.cells.size = size) (hsz : 0 < size)
    {o : Oper} {a : Act} {K : Act → World → Prop} {Q : Exit → Act → World → Prop} (s x : Operand) (ho : o.op = .call { callee := .builtin .append, args := #[s, x], argTypes := #[tS, tS] })
    {w : World} {v : Value} {n : Nat} {xs : List Value} (hown : w.ownsRow 0 e size v n xs) (hs : a.eval s = v) {B : Nat} {A : Option Addr} {m c : Nat} {ys : List Value} (hy : ys.length = m * size) (hr : Rd w B A ys) (hA : A = none → c = 0) (hmc : m ≤ c) (h1 : ∀ u ∈ ys, u.oneCell' = true)
    (hx : a.eval x = .slice A m c) (hlen : (n + m) * bytes ≤ 140737488355328) (hmax : n + m ≤ maxLen)
    (h : ∀ v' w', w'.ownsRow 0 e size v' (n + m) (xs ++ ys) → Keep (fun g => v.ownBlock = some g) w w' → (∀ g, v'.ownBlock = some g → v.ownBlock = some g ∨ (w.heap.size ≤ g ∧ g < w'.heap.size)) → K (a.put o.dst v') w') :
    Oper.wp P o a w K Q := by
  cases A with
  | none =>
    obtain rfl := hA rfl
    obtain rfl : m = 0 := by omega
    obtain rfl : ys = [] := List.eq_nil_of_length_eq_zero (by omega)
    have hrun := run_append_owned_none (P := P) (w := w) 0 tS o.type e i0 size hun hi0 v n xs hown
    unfold Oper.wp execOp
    simp only [ho, resolve, invoke, builtin, Sem.run_bind, Sem.run_pure, Result.andThen_ok, List.map_toArray, List.map_cons, List.map_nil, hs, hx, hrun]
    exact h v w (by simpa using hown) (Keep.refl _ _) (fun g hg => .inl hg)
  | some ad =>
    have hnews : ∀ j u, ys[j]? = some u → w.cell? (ad.add j) = some u := fun j u hj => by
      obtain ⟨b, off, e, _, hc⟩ := hr j u hj
      cases e
      rw [add_plain]
      exact hc
    obtain ⟨v', w', hrn, ho', hg, _, hat⟩ := run_append_own_at (P := P) w 0 tS o.type e i0 z size bytes hun hi0 hz0 hz1 hz2 hzs hsz v n xs hown ad m c ys hy hnews h1 hmax hlen (Nat.zero_le _)
    have hlt := ho'.lt
    unfold Oper.wp execOp
    simp only [ho, resolve, invoke, builtin, Sem.run_bind, Sem.run_pure, Result.andThen_ok, List.map_toArray, List.map_cons, List.map_nil, hs, hx, hrn]
    refine h v' w' ho' ⟨hg.os, hg.tape, hg.output, hg.size, fun k hk hn => hg.block k hk (fun e => hn e.symm)⟩ (fun g hg' => ?_)
    rcases hat with e1 | e1
    · exact .inl (e1 ▸ hg')
    · have h2 := hlt g hg'
      rw [e1] at hg'
      injection hg' with hg'
      exact .inr ⟨by omega, h2.2⟩
end
theorem cellsK_ones (l : List K) : ∀ u ∈ cellsK l, u.oneCell' = true := by
  induction l with
  | nil => intro u h; cases h
  | cons x l ih =>
    intro u h
    rw [cellsK] at h
    rcases List.mem_append.1 h with h | h
    · simp [K.cells] at h; rcases h with rfl | rfl | rfl | rfl | rfl <;> rfl
    · exact ih u h
theorem bo {w w' : World} (h : Keep (fun g => w.heap.size ≤ g) w w') : Below w.heap.size w w' := ⟨h.os, h.tape, h.output, h.size, fun k hk => h.block k hk (fun h => by omega)⟩
/-- where a copy stands: g: its variable -/
def CP (w : World) (lf : Bool) (es : List E) (ks : List K) (A : Option Addr) (c : Nat) (Q : Option Addr) (m : Nat) (g : Nat) (es' : List E) (wr : World) : Prop :=
  Below w.heap.size w wr ∧ Blk wr w.heap.size 87 #[.bool lf, .slice A es.length c, .slice Q ks.length m] ∧ Blk wr (w.heap.size + 1) 87 #[.bool false, .slice none 0 0, .slice none 0 0] ∧ w.heap.size + 1 < g ∧
  ∃ (v : Value) (Q5 : Option Addr) (m5 : Nat), Blk wr g 87 #[.bool lf, v, .slice Q5 ks.length m5] ∧ wr.ownsRow 0 162 5 (.slice Q5 ks.length m5) ks.length (cellsK ks) ∧ (∀ b, (Value.slice Q5 ks.length m5).ownBlock = some b → w.heap.size + 1 < b ∧ b ≠ g) ∧
    wr.ownsRow 0 47 2 v es'.length (cellsE es') ∧ (∀ b, v.ownBlock = some b → w.heap.size + 1 < b ∧ b ≠ g ∧ (Value.slice Q5 ks.length m5).ownBlock ≠ some b) ∧ ∀ x ∈ es', OwnVF wr (fun b => w.heap.size + 1 < b ∧ b ≠ g ∧ v.ownBlock ≠ some b) x ∧ x.s.size ≤ maxLen
theorem CP_next {w wr wc w9 : World} {lf : Bool} {es es' : List E} {ks : List K} {A Q Q5 : Option Addr} {c m m5 g : Nat} {v v9 : Value} {y : E}
    (b0 : Below w.heap.size w wr) (k1 : Blk wr w.heap.size 87 #[.bool lf, .slice A es.length c, .slice Q ks.length m]) (k2 : Blk wr (w.heap.size + 1) 87 #[.bool false, .slice none 0 0, .slice none 0 0]) (hg : w.heap.size + 1 < g)
    (kG : Blk wr g 87 #[.bool lf, v, .slice Q5 ks.length m5]) (hQ : wr.ownsRow 0 162 5 (.slice Q5 ks.length m5) ks.length (cellsK ks)) (hQo : ∀ b, (Value.slice Q5 ks.length m5).ownBlock = some b → w.heap.size + 1 < b ∧ b ≠ g)
    (hO : wr.ownsRow 0 47 2 v es'.length (cellsE es')) (hOo : ∀ b, v.ownBlock = some b → w.heap.size + 1 < b ∧ b ≠ g ∧ (Value.slice Q5 ks.length m5).ownBlock ≠ some b) (hOs : ∀ x ∈ es', OwnVF wr (fun b => w.heap.size + 1 < b ∧ b ≠ g ∧ v.ownBlock ≠ some b) x ∧ x.s.size ≤ maxLen)
    (bc : Below wr.heap.size wr wc) (hy : OwnVF wc (fun b => wr.heap.size ≤ b ∧ b < wc.heap.size) y) (hys : y.s.size ≤ maxLen) (ho9 : w9.ownsRow 0 47 2 v9 (es'.length + 1) (cellsE es' ++ y.cells)) (hK : Keep (fun b => v.ownBlock = some b) wc w9)
    (hv9 : ∀ b, v9.ownBlock = some b → v.ownBlock = some b ∨ (wc.heap.size ≤ b ∧ b < w9.heap.size)) : CP w lf es ks A c Q m g (es' ++ [y]) (w9.setCell ⟨g, 1, none⟩ v9) := by
  have l2 := k2.lt
  have lg := kG.lt
  have sc := bc.size
  have s9 := hK.size
  have hol := fun b (hb : v.ownBlock = some b) => (hO.lt b hb).2
  have hql := fun b (hb : (Value.slice Q5 ks.length m5).ownBlock = some b) => (hQ.lt b hb).2
  have far : ∀ b, b ≠ g → (w9.setCell ⟨g, 1, none⟩ v9).heap[b]? = w9.heap[b]? := fun b hb => Below.heap_setCell _ _ _ _ (by simpa using hb)
  have hA : ∀ b, b < wr.heap.size → b ≠ g → v.ownBlock ≠ some b → (w9.setCell ⟨g, 1, none⟩ v9).heap[b]? = wr.heap[b]? := fun b h1 h2 h3 => (far b h2).trans ((hK.block b (by omega) h3).trans (bc.block b h1))
  refine ⟨?_, ?_, ?_, hg, v9, Q5, m5, ?_, ?_, hQo, ?_, ?_, ?_⟩
  · exact ((b0.trans (bc.mono b0.size)).trans (hK.below (fun b hb => by have := hOo b hb; omega) (by have := b0.size; omega))).setCell (p := ⟨g, 1, none⟩) (by simp only; omega) _
  · exact (hA _ k1.lt (by omega) (fun e => by have := hOo _ e; omega)).trans k1
  · exact (hA _ l2 (by omega) (fun e => by have := hOo _ e; omega)).trans k2
  · have := ((hK.blk (kG.below bc lg) (fun e => (hOo _ e).2.1 rfl))).put 1 v9
    simpa using this
  · exact ownsRow_agree hQ fun b hb => hA b (hql b hb) (hQo b hb).2 (fun e => (hOo b e).2.2 hb)
  · rw [List.length_append, List.length_singleton, cellsE_app]
    refine ownsRow_agree (w := w9) (by simpa [cellsE] using ho9) fun b hb => far b ?_
    rcases hv9 b hb with e | e
    · exact (hOo b e).2.1
    · omega
  · intro b hb
    rcases hv9 b hb with e | e
    · exact hOo b e
    · exact ⟨by omega, by omega, fun h => by have := hql b h; omega⟩
  · intro x hx
    rcases List.mem_append.1 hx with h1 | h1
    · obtain ⟨h2, h3⟩ := hOs x h1
      have hlt : ∀ b, (Value.slice x.A x.l.length x.c).ownBlock = some b → b < wr.heap.size := fun b hb => (h2.1.lt b hb).2
      refine ⟨⟨ownsRow_agree h2.1 fun b hb => ?_, h2.2.1, h2.2.2.1, fun b hb => ?_⟩, h3⟩
      · have := h2.2.2.2 b hb
        exact hA b (hlt b hb) this.2.1 this.2.2
      · have := h2.2.2.2 b hb
        refine ⟨this.1, this.2.1, fun e => ?_⟩
        rcases hv9 b e with e1 | e1
        · exact this.2.2 e1
        · have := hlt b hb; omega
    · rw [List.mem_singleton.1 h1]
      refine ⟨((hy.agree fun b hb => ?_).mono fun b hb => ⟨?_, ?_, fun e => ?_⟩), hys⟩
      · exact (far b (by omega)).trans (hK.block b hb.2 (fun e => by have := hol b e; omega))
      · omega
      · omega
      · rcases hv9 b e with e1 | e1
        · have := hol b e1; omega
        · omega
/-- what Copy answers -/
def CAns (w : World) (lf : Bool) (es : List E) (ks : List K) (e : Ending) (w' : World) : Prop := Below w.heap.size w w' ∧ ∃ (es' : List E) (A : Option Addr) (c : Nat) (Q : Option Addr) (m : Nat), e = .returned (.agg #[.bool lf, .slice A es'.length c, .slice Q ks.length m]) ∧ es'.map pe = es.map pe ∧ Es w' w'.heap.size es' A c ∧ Ks w' w'.heap.size ks Q m ∧ OwnNF w' (fun b => w.heap.size ≤ b ∧ b < w'.heap.size) ⟨lf, es', ks, A, c, Q, m⟩

set_option maxRecDepth 100000 in
set_option maxHeartbeats 2000000 in
theorem copy6_any (lf : Bool) (es : List E) (ks : List K) (A : Option Addr) (c : Nat) (Q : Option Addr) (m : Nat) (w : World) (hv : Es w w.heap.size es A c) (hk : Ks w w.heap.size ks Q m) :
    Calls Try.prog 117 #[.agg #[.bool lf, .slice A es.length c, .slice Q ks.length m]] w (CAns w lf es ks) := by
  obtain ⟨i0, hi0, hz0, hz1, hz2⟩ := info_parts infoK
  have k1 := (Blk.new w 87 #[.bool lf, .slice A es.length c, .slice Q ks.length m]).alloc (.cells #[.bool false, .slice none 0 0, .slice none 0 0] 87)
  have k2 := Blk.new (w.alloc (.cells #[.bool lf, .slice A es.length c, .slice Q ks.length m] 87)) 87 #[.bool false, .slice none 0 0, .slice none 0 0]
  have bW : Below w.heap.size w ((w.alloc (.cells #[.bool lf, .slice A es.length c, .slice Q ks.length m] 87)).alloc (.cells #[.bool false, .slice none 0 0, .slice none 0 0] 87)) := ((Below.refl _ _).alloc (Nat.le_refl _) _).alloc (by simp) _
  rw [World.size_alloc] at k2
  have hKc := hk.2.2.1
  have hKn := hk.1
  have hlen := hk.2.1
  have hRd := (hk.at_world bW).2.2.2.1
  go_enter Try.func117, Try.ntmps117
  go_wp2_with fail
  generalize (w.alloc (.cells #[.bool lf, .slice A es.length c, .slice Q ks.length m] 87)).alloc (.cells #[.bool false, .slice none 0 0, .slice none 0 0] 87) = W at *
  have y0 := k1.cell 0
  have y1 := k1.cell 1
  have y2 := k1.cell 2
  simp at y0 y1 y2
  have lw := k1.lt
  go_upto_region 1 with (fail)
  go_cut [3] (fun v wx => ∃ g, v = .pointer (some ⟨g, 0, none⟩) ∧ CP w lf es ks A c Q m g [] wx)
  case first =>
    have hS1 : Below W.heap.size W W.drew := (Below.refl _ _).drew
    have hS0 : Keep (fun g => W.heap.size ≤ g) W W.drew := Keep.of_below hS1
    refine mix.region_D (fun w' => Keep (fun g => W.heap.size ≤ g) W w') (fun j => decide (6 ≤ j) && !(j == 7)) (by kernel_rfl) ?_
    generalize W.drew = Wd at hS0 hS1 ⊢
    refine mix.D_takeT (i := 0) (v := ?_) rfl (by kernel_rfl) (by kernel_rfl) (fun _ _ _ h => h) (Or.inl ⟨by rfl, ?_⟩) hS0 ?_
    rotate_left
    · intro w' hSw
      have y0 := (hSw.cell (p := ⟨w.heap.size, 0, none⟩) lw (Nat.not_le.2 lw)).trans y0
      have y1 := (hSw.cell (p := ⟨w.heap.size, 2, none⟩) lw (Nat.not_le.2 lw)).trans y2
      try simp only [List.getElem_toArray, List.getElem_cons_zero, List.getElem_cons_succ]
      go_simp
      exact rfl
    try simp only [Act.put, List.setIfInBounds_toArray, List.set_cons_zero, List.set_cons_succ, List.getElem_toArray, List.getElem_cons_zero, List.getElem_cons_succ]
    refine mix.D_takeT (i := 1) (v := ?_) rfl (by kernel_rfl) (by kernel_rfl) (fun _ _ _ h => h) (Or.inl ⟨by rfl, ?_⟩) hS0 ?_
    rotate_left
    · intro w' hSw
      have y0 := (hSw.cell (p := ⟨w.heap.size, 0, none⟩) lw (Nat.not_le.2 lw)).trans y0
      have y1 := (hSw.cell (p := ⟨w.heap.size, 2, none⟩) lw (Nat.not_le.2 lw)).trans y2
      try simp only [List.getElem_toArray, List.getElem_cons_zero, List.getElem_cons_succ]
      go_simp
      exact rfl
    try simp only [Act.put, List.setIfInBounds_toArray, List.set_cons_zero, List.set_cons_succ, List.getElem_toArray, List.getElem_cons_zero, List.getElem_cons_succ]
    refine mix.D_takeT (i := 3) (v := ?_) rfl (by kernel_rfl) (by kernel_rfl) (fun _ _ _ h => h) (Or.inl ⟨by rfl, ?_⟩) hS0 ?_
    rotate_left
    · intro w' hSw
      have y0 := (hSw.cell (p := ⟨w.heap.size, 0, none⟩) lw (Nat.not_le.2 lw)).trans y0
      have y1 := (hSw.cell (p := ⟨w.heap.size, 2, none⟩) lw (Nat.not_le.2 lw)).trans y2
      try simp only [List.getElem_toArray, List.getElem_cons_zero, List.getElem_cons_succ]
      go_simp
      exact rfl
    try simp only [Act.put, List.setIfInBounds_toArray, List.set_cons_zero, List.set_cons_succ, List.getElem_toArray, List.getElem_cons_zero, List.getElem_cons_succ]
    refine mix.D_takeT (i := 4) (v := ?_) rfl (by kernel_rfl) (by kernel_rfl) (fun _ _ _ h => h) (Or.inl ⟨by rfl, ?_⟩) hS0 ?_
    rotate_left
    · intro w' hSw
      have y0 := (hSw.cell (p := ⟨w.heap.size, 0, none⟩) lw (Nat.not_le.2 lw)).trans y0
      have y1 := (hSw.cell (p := ⟨w.heap.size, 2, none⟩) lw (Nat.not_le.2 lw)).trans y2
      try simp only [List.getElem_toArray, List.getElem_cons_zero, List.getElem_cons_succ]
      go_simp
      exact rfl
    try simp only [Act.put, List.setIfInBounds_toArray, List.set_cons_zero, List.set_cons_succ, List.getElem_toArray, List.getElem_cons_zero, List.getElem_cons_succ]
    refine mix.D_two (k := 2) (j := 7) rfl rfl rfl rfl (by kernel_rfl) (fun K' hK => ?_) (fun K' hK => ?_)
    · simp only [List.getElem_toArray, List.getElem_cons_zero, List.getElem_cons_succ]
      go_wp2_with fail
      have hs1 : Below Wd.heap.size Wd (Wd.alloc (.cells #[] 162)) := (Below.refl _ _).alloc (Nat.le_refl _) _
      have hr1 : (Wd.alloc (.cells #[] 162)).ownsRow 0 162 5 (.slice (some ⟨Wd.heap.size, 0, none⟩) 0 0) 0 [] := World.ownsRow_made Wd #[] 0 (Nat.zero_le _) (Nat.zero_le _) rfl
      have hg1 : W.heap.size ≤ Wd.heap.size := hS0.size
      generalize hgg1 : Wd.heap.size = g1 at hr1 hg1 ⊢
      generalize Wd.alloc (.cells #[] 162) = wb1 at hs1 hr1 ⊢
      have hgl := (hr1.lt _ rfl).2
      have hb1 := hS0.seq hs1
      refine hK.out _ _ (fun _ => hb1) ?_
      clear hK K'
      try simp only [Act.put, List.setIfInBounds_toArray, List.set_cons_zero, List.set_cons_succ]
      refine mix.D_two (k := 5) (j := 7) rfl rfl rfl rfl (by kernel_rfl) (fun K' hK => ?_) (fun K' hK => ?_)
      · simp only [List.getElem_toArray, List.getElem_cons_zero, List.getElem_cons_succ]
        refine wp_bulk Try.underlying85 hi0 hz0 hz1 hz2 rfl (by decide) (.tmp 8) (.tmp 10) rfl (w := wb1) (n := 0) (xs := []) hr1 rfl (B := W.heap.size) (ys := cellsK ks) (by rw [cellsK_len]; omega) (hRd.below (bo hb1)) hKc hKn (cellsK_ones ks) rfl (by omega) (by unfold maxLen; omega) ?_
        intro v5 wb2 ho5 hK5 hv5
        rw [Nat.zero_add, List.nil_append] at ho5
        obtain ⟨Q5, m5, rfl, _, _, _⟩ := row_rdF ho5
        have row2 := ho5
        have hb2 : Keep (fun g => W.heap.size ≤ g) W wb2 := hb1.trans hK5 (fun g hg hl => by have e := hg; simp [Value.ownBlock] at e; omega)
        have hs2 := hK5.size
        have hq5 : ∀ b, (Value.slice Q5 ks.length m5).ownBlock = some b → W.heap.size ≤ b ∧ b < wb2.heap.size := fun b hb => by
          refine ⟨?_, (ho5.lt b hb).2⟩
          rcases hv5 b hb with e | e
          · simp [Value.ownBlock] at e; omega
          · have := hb1.size; omega
        refine hK.out _ _ (fun _ => hb2) ?_
        clear hK K'
        try simp only [Act.put, List.setIfInBounds_toArray, List.set_cons_zero, List.set_cons_succ]
        refine mix.D_two (k := 6) (j := 7) rfl rfl rfl rfl (by kernel_rfl) (fun K' hK => ?_) (fun K' hK => ?_)
        · simp only [List.getElem_toArray, List.getElem_cons_zero, List.getElem_cons_succ]
          go_wp2_with fail
          refine hK.out _ _ (fun h => by simp at h) ?_
          clear hK K'
          try simp only [Act.put, List.setIfInBounds_toArray, List.set_cons_zero, List.set_cons_succ]
          refine mix.D_op (k := 7) rfl rfl (by kernel_rfl) (fun K' hK => ?_)
          simp only [List.getElem_toArray, List.getElem_cons_zero, List.getElem_cons_succ]
          go_wp2_with fail
          have hs4 : Below wb2.heap.size wb2 (wb2.alloc (.cells #[.bool false, .slice none 0 0, .slice none 0 0] 87)) := (Below.refl _ _).alloc (Nat.le_refl _) _
          have kN4 := Blk.new wb2 87 #[.bool false, .slice none 0 0, .slice none 0 0]
          have hsz4 : wb2.heap.size < (wb2.alloc (.cells #[.bool false, .slice none 0 0, .slice none 0 0] 87)).heap.size := by simp
          have hg4 := vers.lay (rfl : wb2.heap.size = wb2.heap.size)
          generalize wb2.alloc (.cells #[.bool false, .slice none 0 0, .slice none 0 0] 87) = wa4 at hs4 kN4 hsz4 ⊢
          have row4 := row_below row2 hs4
          have hb4 := hb2.seq hs4
          refine hK.out _ _ (fun _ => hb4) ?_
          clear hK K'
          try simp only [Act.put, List.setIfInBounds_toArray, List.set_cons_zero, List.set_cons_succ]
          refine mix.D_op (k := 8) rfl rfl (by kernel_rfl) (fun K' hK => ?_)
          simp only [List.getElem_toArray, List.getElem_cons_zero, List.getElem_cons_succ]
          have c0 := kN4.cell 0
          have c1 := kN4.cell 1
          have c2 := kN4.cell 2
          have f0 := kN4.frozen 0
          have f1 := kN4.frozen 1
          have f2 := kN4.frozen 2
          simp at c0 c1 c2
          have gl := kN4.lt
          go_wp2_with fail
          refine hK.out _ _ (fun h => by simp at h) ?_
          clear hK K'
          refine mix.D_done (by kernel_rfl) ?_ _
          try simp only [Act.put, List.setIfInBounds_toArray, List.set_cons_zero, List.set_cons_succ, List.getElem_toArray, List.getElem_cons_zero, List.getElem_cons_succ]
          have k9 := ((kN4.put 0 (.bool lf)).put 1 (.slice none 0 0)).put 2 (.slice Q5 ks.length m5)
          simp at k9
          have bF := (bW.trans ((bo hb4).mono bW.size))
          have hgW : W.heap.size ≤ wb2.heap.size := hb2.size
          have bF := ((bF.setCell (p := ⟨wb2.heap.size, 0, none⟩) (by have := bW.size; simp only; omega) (.bool lf)).setCell (p := ⟨wb2.heap.size, 1, none⟩) (by have := bW.size; simp only; omega) (.slice none 0 0)).setCell (p := ⟨wb2.heap.size, 2, none⟩) (by have := bW.size; simp only; omega) (.slice Q5 ks.length m5)
          go_wp2_with fail
          go_meet
          have hqg : ∀ b, (Value.slice Q5 ks.length m5).ownBlock = some b → b ≠ wb2.heap.size := fun b hb => by have := hq5 b hb; omega
          have bWs := bW.size
          have lk2 := k2.lt
          have kk1 := Blk.below (k1.below (bo hb4) lw) (w' := ((wa4.setCell ⟨wb2.heap.size, 0, none⟩ (.bool lf)).setCell ⟨wb2.heap.size, 1, none⟩ (.slice none 0 0)).setCell ⟨wb2.heap.size, 2, none⟩ (.slice Q5 ks.length m5)) (B := W.heap.size) ((((Below.refl _ _).setCell (p := ⟨wb2.heap.size, 0, none⟩) hgW _).setCell (p := ⟨wb2.heap.size, 1, none⟩) hgW _).setCell (p := ⟨wb2.heap.size, 2, none⟩) hgW _) lw
          have kk2 := Blk.below (k2.below (bo hb4) lk2) (w' := ((wa4.setCell ⟨wb2.heap.size, 0, none⟩ (.bool lf)).setCell ⟨wb2.heap.size, 1, none⟩ (.slice none 0 0)).setCell ⟨wb2.heap.size, 2, none⟩ (.slice Q5 ks.length m5)) (B := W.heap.size) ((((Below.refl _ _).setCell (p := ⟨wb2.heap.size, 0, none⟩) hgW _).setCell (p := ⟨wb2.heap.size, 1, none⟩) hgW _).setCell (p := ⟨wb2.heap.size, 2, none⟩) hgW _) lk2
          refine ⟨_, rfl, bF, kk1, kk2, by omega, .slice none 0 0, Q5, m5, k9, ownsRow_agree row4 (fun b hb => ?_), fun b hb => ⟨by have := hq5 b hb; omega, hqg b hb⟩, ⟨rfl, .inl ⟨rfl, rfl⟩⟩, (fun b hb => by cases hb), fun x hx => by cases hx⟩
          have hbg := hqg b hb
          rw [Below.heap_setCell _ _ _ _ (by simpa using hbg), Below.heap_setCell _ _ _ _ (by simpa using hbg), Below.heap_setCell _ _ _ _ (by simpa using hbg)]
        · simp only [List.getElem_toArray, List.getElem_cons_zero, List.getElem_cons_succ]
          go_wp2_with fail
          have hs6 : Below wb2.heap.size wb2 (wb2.alloc (.cells #[.bool false, .slice none 0 0, .slice none 0 0] 87)) := (Below.refl _ _).alloc (Nat.le_refl _) _
          have kN6 := Blk.new wb2 87 #[.bool false, .slice none 0 0, .slice none 0 0]
          have hsz6 : wb2.heap.size < (wb2.alloc (.cells #[.bool false, .slice none 0 0, .slice none 0 0] 87)).heap.size := by simp
          have hg6 := vers.lay (rfl : wb2.heap.size = wb2.heap.size)
          generalize wb2.alloc (.cells #[.bool false, .slice none 0 0, .slice none 0 0] 87) = wa6 at hs6 kN6 hsz6 ⊢
          have row6 := row_below row2 hs6
          have hb6 := hb2.seq hs6
          refine hK.out _ _ (fun _ => hb6) ?_
          clear hK K'
          try simp only [Act.put, List.setIfInBounds_toArray, List.set_cons_zero, List.set_cons_succ]
          refine mix.D_op (k := 6) rfl rfl (by kernel_rfl) (fun K' hK => ?_)
          simp only [List.getElem_toArray, List.getElem_cons_zero, List.getElem_cons_succ]
          go_wp2_with fail
          refine hK.out _ _ (fun h => by simp at h) ?_
          clear hK K'
          try simp only [Act.put, List.setIfInBounds_toArray, List.set_cons_zero, List.set_cons_succ]
          refine mix.D_op (k := 8) rfl rfl (by kernel_rfl) (fun K' hK => ?_)
          simp only [List.getElem_toArray, List.getElem_cons_zero, List.getElem_cons_succ]
          have c0 := kN6.cell 0
          have c1 := kN6.cell 1
          have c2 := kN6.cell 2
          have f0 := kN6.frozen 0
          have f1 := kN6.frozen 1
          have f2 := kN6.frozen 2
          simp at c0 c1 c2
          have gl := kN6.lt
          go_wp2_with fail
          refine hK.out _ _ (fun h => by simp at h) ?_
          clear hK K'
          refine mix.D_done (by kernel_rfl) ?_ _
          try simp only [Act.put, List.setIfInBounds_toArray, List.set_cons_zero, List.set_cons_succ, List.getElem_toArray, List.getElem_cons_zero, List.getElem_cons_succ]
          have k9 := ((kN6.put 0 (.bool lf)).put 1 (.slice none 0 0)).put 2 (.slice Q5 ks.length m5)
          simp at k9
          have bF := (bW.trans ((bo hb6).mono bW.size))
          have hgW : W.heap.size ≤ wb2.heap.size := hb2.size
          have bF := ((bF.setCell (p := ⟨wb2.heap.size, 0, none⟩) (by have := bW.size; simp only; omega) (.bool lf)).setCell (p := ⟨wb2.heap.size, 1, none⟩) (by have := bW.size; simp only; omega) (.slice none 0 0)).setCell (p := ⟨wb2.heap.size, 2, none⟩) (by have := bW.size; simp only; omega) (.slice Q5 ks.length m5)
          go_wp2_with fail
          go_meet
          have hqg : ∀ b, (Value.slice Q5 ks.length m5).ownBlock = some b → b ≠ wb2.heap.size := fun b hb => by have := hq5 b hb; omega
          have bWs := bW.size
          have lk2 := k2.lt
          have kk1 := Blk.below (k1.below (bo hb6) lw) (w' := ((wa6.setCell ⟨wb2.heap.size, 0, none⟩ (.bool lf)).setCell ⟨wb2.heap.size, 1, none⟩ (.slice none 0 0)).setCell ⟨wb2.heap.size, 2, none⟩ (.slice Q5 ks.length m5)) (B := W.heap.size) ((((Below.refl _ _).setCell (p := ⟨wb2.heap.size, 0, none⟩) hgW _).setCell (p := ⟨wb2.heap.size, 1, none⟩) hgW _).setCell (p := ⟨wb2.heap.size, 2, none⟩) hgW _) lw
          have kk2 := Blk.below (k2.below (bo hb6) lk2) (w' := ((wa6.setCell ⟨wb2.heap.size, 0, none⟩ (.bool lf)).setCell ⟨wb2.heap.size, 1, none⟩ (.slice none 0 0)).setCell ⟨wb2.heap.size, 2, none⟩ (.slice Q5 ks.length m5)) (B := W.heap.size) ((((Below.refl _ _).setCell (p := ⟨wb2.heap.size, 0, none⟩) hgW _).setCell (p := ⟨wb2.heap.size, 1, none⟩) hgW _).setCell (p := ⟨wb2.heap.size, 2, none⟩) hgW _) lk2
          refine ⟨_, rfl, bF, kk1, kk2, by omega, .slice none 0 0, Q5, m5, k9, ownsRow_agree row6 (fun b hb => ?_), fun b hb => ⟨by have := hq5 b hb; omega, hqg b hb⟩, ⟨rfl, .inl ⟨rfl, rfl⟩⟩, (fun b hb => by cases hb), fun x hx => by cases hx⟩
          have hbg := hqg b hb
          rw [Below.heap_setCell _ _ _ _ (by simpa using hbg), Below.heap_setCell _ _ _ _ (by simpa using hbg), Below.heap_setCell _ _ _ _ (by simpa using hbg)]
      · simp only [List.getElem_toArray, List.getElem_cons_zero, List.getElem_cons_succ]
        go_wp2_with fail
        have hs9 : Below wb1.heap.size wb1 (wb1.alloc (.cells #[.bool false, .slice none 0 0, .slice none 0 0] 87)) := (Below.refl _ _).alloc (Nat.le_refl _) _
        have kN9 := Blk.new wb1 87 #[.bool false, .slice none 0 0, .slice none 0 0]
        have hsz9 : wb1.heap.size < (wb1.alloc (.cells #[.bool false, .slice none 0 0, .slice none 0 0] 87)).heap.size := by simp
        have hg9 := vers.lay (rfl : wb1.heap.size = wb1.heap.size)
        generalize wb1.alloc (.cells #[.bool false, .slice none 0 0, .slice none 0 0] 87) = wa9 at hs9 kN9 hsz9 ⊢
        have hr9 := row_below hr1 hs9
        have hb9 := hb1.seq hs9
        refine hK.out _ _ (fun _ => hb9) ?_
        clear hK K'
        try simp only [Act.put, List.setIfInBounds_toArray, List.set_cons_zero, List.set_cons_succ]
        refine mix.D_op (k := 5) rfl rfl (by kernel_rfl) (fun K' hK => ?_)
        simp only [List.getElem_toArray, List.getElem_cons_zero, List.getElem_cons_succ]
        refine wp_bulk Try.underlying85 hi0 hz0 hz1 hz2 rfl (by decide) (.tmp 8) (.tmp 10) rfl (w := wa9) (n := 0) (xs := []) hr9 rfl (B := W.heap.size) (ys := cellsK ks) (by rw [cellsK_len]; omega) (hRd.below (bo hb9)) hKc hKn (cellsK_ones ks) rfl (by omega) (by unfold maxLen; omega) ?_
        intro v5 wb10 ho5 hK5 hv5
        rw [Nat.zero_add, List.nil_append] at ho5
        obtain ⟨Q5, m5, rfl, _, _, _⟩ := row_rdF ho5
        have row10 := ho5
        have hb10 : Keep (fun g => W.heap.size ≤ g) W wb10 := hb9.trans hK5 (fun g hg hl => by have e := hg; simp [Value.ownBlock] at e; omega)
        have hs10 := hK5.size
        have hq5 : ∀ b, (Value.slice Q5 ks.length m5).ownBlock = some b → W.heap.size ≤ b ∧ b < wb10.heap.size := fun b hb => by
          refine ⟨?_, (ho5.lt b hb).2⟩
          rcases hv5 b hb with e | e
          · simp [Value.ownBlock] at e; omega
          · have := hb9.size; omega
        have kN10 := hK5.blk kN9 (fun e => by simp [Value.ownBlock] at e; skip; have s1 := hs1.size; have s9 := hs9.size; have t9 := hsz9; omega)
        have hqN : ∀ b, (Value.slice Q5 ks.length m5).ownBlock = some b → b ≠ wb1.heap.size := fun b hb => by
          rcases hv5 b hb with e | e
          · simp [Value.ownBlock] at e; skip; have s1 := hs1.size; have s9 := hs9.size; have t9 := hsz9; omega
          · have := kN9.lt; omega
        refine hK.out _ _ (fun _ => hb10) ?_
        clear hK K'
        try simp only [Act.put, List.setIfInBounds_toArray, List.set_cons_zero, List.set_cons_succ]
        refine mix.D_op (k := 6) rfl rfl (by kernel_rfl) (fun K' hK => ?_)
        simp only [List.getElem_toArray, List.getElem_cons_zero, List.getElem_cons_succ]
        go_wp2_with fail
        refine hK.out _ _ (fun h => by simp at h) ?_
        clear hK K'
        try simp only [Act.put, List.setIfInBounds_toArray, List.set_cons_zero, List.set_cons_succ]
        refine mix.D_op (k := 8) rfl rfl (by kernel_rfl) (fun K' hK => ?_)
        simp only [List.getElem_toArray, List.getElem_cons_zero, List.getElem_cons_succ]
        have c0 := kN10.cell 0
        have c1 := kN10.cell 1
        have c2 := kN10.cell 2
        have f0 := kN10.frozen 0
        have f1 := kN10.frozen 1
        have f2 := kN10.frozen 2
        simp at c0 c1 c2
        have gl := kN10.lt
        go_wp2_with fail
        refine hK.out _ _ (fun h => by simp at h) ?_
        clear hK K'
        refine mix.D_done (by kernel_rfl) ?_ _
        try simp only [Act.put, List.setIfInBounds_toArray, List.set_cons_zero, List.set_cons_succ, List.getElem_toArray, List.getElem_cons_zero, List.getElem_cons_succ]
        have k9 := ((kN10.put 0 (.bool lf)).put 1 (.slice none 0 0)).put 2 (.slice Q5 ks.length m5)
        simp at k9
        have bF := (bW.trans ((bo hb10).mono bW.size))
        have hgW : W.heap.size ≤ wb1.heap.size := hb1.size
        have bF := ((bF.setCell (p := ⟨wb1.heap.size, 0, none⟩) (by have := bW.size; simp only; omega) (.bool lf)).setCell (p := ⟨wb1.heap.size, 1, none⟩) (by have := bW.size; simp only; omega) (.slice none 0 0)).setCell (p := ⟨wb1.heap.size, 2, none⟩) (by have := bW.size; simp only; omega) (.slice Q5 ks.length m5)
        go_wp2_with fail
        go_meet
        have hqg : ∀ b, (Value.slice Q5 ks.length m5).ownBlock = some b → b ≠ wb1.heap.size := hqN
        have bWs := bW.size
        have lk2 := k2.lt
        have kk1 := Blk.below (k1.below (bo hb10) lw) (w' := ((wb10.setCell ⟨wb1.heap.size, 0, none⟩ (.bool lf)).setCell ⟨wb1.heap.size, 1, none⟩ (.slice none 0 0)).setCell ⟨wb1.heap.size, 2, none⟩ (.slice Q5 ks.length m5)) (B := W.heap.size) ((((Below.refl _ _).setCell (p := ⟨wb1.heap.size, 0, none⟩) hgW _).setCell (p := ⟨wb1.heap.size, 1, none⟩) hgW _).setCell (p := ⟨wb1.heap.size, 2, none⟩) hgW _) lw
        have kk2 := Blk.below (k2.below (bo hb10) lk2) (w' := ((wb10.setCell ⟨wb1.heap.size, 0, none⟩ (.bool lf)).setCell ⟨wb1.heap.size, 1, none⟩ (.slice none 0 0)).setCell ⟨wb1.heap.size, 2, none⟩ (.slice Q5 ks.length m5)) (B := W.heap.size) ((((Below.refl _ _).setCell (p := ⟨wb1.heap.size, 0, none⟩) hgW _).setCell (p := ⟨wb1.heap.size, 1, none⟩) hgW _).setCell (p := ⟨wb1.heap.size, 2, none⟩) hgW _) lk2
        refine ⟨_, rfl, bF, kk1, kk2, by omega, .slice none 0 0, Q5, m5, k9, ownsRow_agree row10 (fun b hb => ?_), fun b hb => ⟨by have := hq5 b hb; omega, hqg b hb⟩, ⟨rfl, .inl ⟨rfl, rfl⟩⟩, (fun b hb => by cases hb), fun x hx => by cases hx⟩
        have hbg := hqg b hb
        rw [Below.heap_setCell _ _ _ _ (by simpa using hbg), Below.heap_setCell _ _ _ _ (by simpa using hbg), Below.heap_setCell _ _ _ _ (by simpa using hbg)]
    · simp only [List.getElem_toArray, List.getElem_cons_zero, List.getElem_cons_succ]
      go_wp2_with fail
      have hs13 : Below Wd.heap.size Wd (Wd.alloc (.cells #[.bool false, .slice none 0 0, .slice none 0 0] 87)) := (Below.refl _ _).alloc (Nat.le_refl _) _
      have kN13 := Blk.new Wd 87 #[.bool false, .slice none 0 0, .slice none 0 0]
      have hsz13 : Wd.heap.size < (Wd.alloc (.cells #[.bool false, .slice none 0 0, .slice none 0 0] 87)).heap.size := by simp
      have hg13 := vers.lay (rfl : Wd.heap.size = Wd.heap.size)
      generalize Wd.alloc (.cells #[.bool false, .slice none 0 0, .slice none 0 0] 87) = wa13 at hs13 kN13 hsz13 ⊢
      have hb13 := hS0.seq hs13
      refine hK.out _ _ (fun _ => hb13) ?_
      clear hK K'
      try simp only [Act.put, List.setIfInBounds_toArray, List.set_cons_zero, List.set_cons_succ]
      refine mix.D_op (k := 2) rfl rfl (by kernel_rfl) (fun K' hK => ?_)
      simp only [List.getElem_toArray, List.getElem_cons_zero, List.getElem_cons_succ]
      go_wp2_with fail
      have hs14 : Below wa13.heap.size wa13 (wa13.alloc (.cells #[] 162)) := (Below.refl _ _).alloc (Nat.le_refl _) _
      have hr14 : (wa13.alloc (.cells #[] 162)).ownsRow 0 162 5 (.slice (some ⟨wa13.heap.size, 0, none⟩) 0 0) 0 [] := World.ownsRow_made wa13 #[] 0 (Nat.zero_le _) (Nat.zero_le _) rfl
      have hg14 : W.heap.size ≤ wa13.heap.size := hb13.size
      generalize hgg14 : wa13.heap.size = g14 at hr14 hg14 ⊢
      generalize wa13.alloc (.cells #[] 162) = wb14 at hs14 hr14 ⊢
      have hgl := (hr14.lt _ rfl).2
      have kN14 := kN13.below hs14 kN13.lt
      have hb14 := hb13.seq hs14
      refine hK.out _ _ (fun _ => hb14) ?_
      clear hK K'
      try simp only [Act.put, List.setIfInBounds_toArray, List.set_cons_zero, List.set_cons_succ]
      refine mix.D_op (k := 5) rfl rfl (by kernel_rfl) (fun K' hK => ?_)
      simp only [List.getElem_toArray, List.getElem_cons_zero, List.getElem_cons_succ]
      refine wp_bulk Try.underlying85 hi0 hz0 hz1 hz2 rfl (by decide) (.tmp 8) (.tmp 10) rfl (w := wb14) (n := 0) (xs := []) hr14 rfl (B := W.heap.size) (ys := cellsK ks) (by rw [cellsK_len]; omega) (hRd.below (bo hb14)) hKc hKn (cellsK_ones ks) rfl (by omega) (by unfold maxLen; omega) ?_
      intro v5 wb15 ho5 hK5 hv5
      rw [Nat.zero_add, List.nil_append] at ho5
      obtain ⟨Q5, m5, rfl, _, _, _⟩ := row_rdF ho5
      have row15 := ho5
      have hb15 : Keep (fun g => W.heap.size ≤ g) W wb15 := hb14.trans hK5 (fun g hg hl => by have e := hg; simp [Value.ownBlock] at e; omega)
      have hs15 := hK5.size
      have hq5 : ∀ b, (Value.slice Q5 ks.length m5).ownBlock = some b → W.heap.size ≤ b ∧ b < wb15.heap.size := fun b hb => by
        refine ⟨?_, (ho5.lt b hb).2⟩
        rcases hv5 b hb with e | e
        · simp [Value.ownBlock] at e; omega
        · have := hb14.size; omega
      have kN15 := hK5.blk kN14 (fun e => by simp [Value.ownBlock] at e; skip; have s13 := hs13.size; have t13 := hsz13; have s14 := hs14.size; omega)
      have hqN : ∀ b, (Value.slice Q5 ks.length m5).ownBlock = some b → b ≠ Wd.heap.size := fun b hb => by
        rcases hv5 b hb with e | e
        · simp [Value.ownBlock] at e; skip; have s13 := hs13.size; have t13 := hsz13; have s14 := hs14.size; omega
        · have := kN14.lt; omega
      refine hK.out _ _ (fun _ => hb15) ?_
      clear hK K'
      try simp only [Act.put, List.setIfInBounds_toArray, List.set_cons_zero, List.set_cons_succ]
      refine mix.D_op (k := 6) rfl rfl (by kernel_rfl) (fun K' hK => ?_)
      simp only [List.getElem_toArray, List.getElem_cons_zero, List.getElem_cons_succ]
      go_wp2_with fail
      refine hK.out _ _ (fun h => by simp at h) ?_
      clear hK K'
      try simp only [Act.put, List.setIfInBounds_toArray, List.set_cons_zero, List.set_cons_succ]
      refine mix.D_op (k := 8) rfl rfl (by kernel_rfl) (fun K' hK => ?_)
      simp only [List.getElem_toArray, List.getElem_cons_zero, List.getElem_cons_succ]
      have c0 := kN15.cell 0
      have c1 := kN15.cell 1
      have c2 := kN15.cell 2
      have f0 := kN15.frozen 0
      have f1 := kN15.frozen 1
      have f2 := kN15.frozen 2
      simp at c0 c1 c2
      have gl := kN15.lt
      go_wp2_with fail
      refine hK.out _ _ (fun h => by simp at h) ?_
      clear hK K'
      refine mix.D_done (by kernel_rfl) ?_ _
      try simp only [Act.put, List.setIfInBounds_toArray, List.set_cons_zero, List.set_cons_succ, List.getElem_toArray, List.getElem_cons_zero, List.getElem_cons_succ]
      have k9 := ((kN15.put 0 (.bool lf)).put 1 (.slice none 0 0)).put 2 (.slice Q5 ks.length m5)
      simp at k9
      have bF := (bW.trans ((bo hb15).mono bW.size))
      have hgW : W.heap.size ≤ Wd.heap.size := hS0.size
      have bF := ((bF.setCell (p := ⟨Wd.heap.size, 0, none⟩) (by have := bW.size; simp only; omega) (.bool lf)).setCell (p := ⟨Wd.heap.size, 1, none⟩) (by have := bW.size; simp only; omega) (.slice none 0 0)).setCell (p := ⟨Wd.heap.size, 2, none⟩) (by have := bW.size; simp only; omega) (.slice Q5 ks.length m5)
      go_wp2_with fail
      go_meet
      have hqg : ∀ b, (Value.slice Q5 ks.length m5).ownBlock = some b → b ≠ Wd.heap.size := hqN
      have bWs := bW.size
      have lk2 := k2.lt
      have kk1 := Blk.below (k1.below (bo hb15) lw) (w' := ((wb15.setCell ⟨Wd.heap.size, 0, none⟩ (.bool lf)).setCell ⟨Wd.heap.size, 1, none⟩ (.slice none 0 0)).setCell ⟨Wd.heap.size, 2, none⟩ (.slice Q5 ks.length m5)) (B := W.heap.size) ((((Below.refl _ _).setCell (p := ⟨Wd.heap.size, 0, none⟩) hgW _).setCell (p := ⟨Wd.heap.size, 1, none⟩) hgW _).setCell (p := ⟨Wd.heap.size, 2, none⟩) hgW _) lw
      have kk2 := Blk.below (k2.below (bo hb15) lk2) (w' := ((wb15.setCell ⟨Wd.heap.size, 0, none⟩ (.bool lf)).setCell ⟨Wd.heap.size, 1, none⟩ (.slice none 0 0)).setCell ⟨Wd.heap.size, 2, none⟩ (.slice Q5 ks.length m5)) (B := W.heap.size) ((((Below.refl _ _).setCell (p := ⟨Wd.heap.size, 0, none⟩) hgW _).setCell (p := ⟨Wd.heap.size, 1, none⟩) hgW _).setCell (p := ⟨Wd.heap.size, 2, none⟩) hgW _) lk2
      refine ⟨_, rfl, bF, kk1, kk2, by omega, .slice none 0 0, Q5, m5, k9, ownsRow_agree row15 (fun b hb => ?_), fun b hb => ⟨by have := hq5 b hb; omega, hqg b hb⟩, ⟨rfl, .inl ⟨rfl, rfl⟩⟩, (fun b hb => by cases hb), fun x hx => by cases hx⟩
      have hbg := hqg b hb
      rw [Below.heap_setCell _ _ _ _ (by simpa using hbg), Below.heap_setCell _ _ _ _ (by simpa using hbg), Below.heap_setCell _ _ _ _ (by simpa using hbg)]
  case rest =>
    obtain ⟨g, rfl, hC⟩ := hcut
    have c0 := hC.2.1.cell 0
    have c1 := hC.2.1.cell 1
    simp at c0 c1
    have lw' := hC.2.1.lt
    clear y0 y1 y2 lw k1 k2 bW hRd hKc hKn hlen
    have hle := hv.2.1
    have hlen : es.length ≤ 140737488355328 := by omega
    go_wp2_with fail
    go_loopw [16] (fun i wr => ∃ (j : Nat) (es' : List E), j ≤ es.length ∧ i = .int .i64 (j : Int) ∧ Hid (es'.map pe = (es.take j).map pe) ∧ CP w lf es ks A c Q m g es' wr) (fun i _ => es.length - (intOf i).toNat)
    case atStart => exact ⟨0, [], Nat.zero_le _, rfl, vers.lay rfl, hC⟩
    case round =>
      clear hC c0 c1 lw'
      obtain ⟨j, es', hj, rfl, hes, hC⟩ := hrel
      by_cases hlt : j < es.length
      · obtain ⟨b0, k1, k2, hg, v, Q5, m5, kG, hQ, hQo, hO, hOo, hOs⟩ := hC
        have hvj := (hv.at_world b0).2.2.2.2 _ (List.getElem_mem hlt)
        obtain ⟨b, off, rfl, hb, e0, e1⟩ := (hv.below b0).at_ hlt
        obtain ⟨PA, pc, rfl, hpc, hpn, _⟩ := row_rdF hO
        have HLN : Hid (es'.length = j) := vers.lay (by have := congrArg List.length hes.out; simp at this; omega)
        have kk1 : (0 : Int) ≤ (j : Int) := by omega
        have kk2 : (j : Int) < (es.length : Int) := by omega
        have bA : Below wr.heap.size wr (wr.alloc (.cells #[.string es[j].s, .slice es[j].A es[j].l.length es[j].c] 47)) := (Below.refl _ _).alloc (Nat.le_refl _) _
        have kX := Blk.new wr 47 #[.string es[j].s, .slice es[j].A es[j].l.length es[j].c]
        have kG1 := kG.alloc (.cells #[.string es[j].s, .slice es[j].A es[j].l.length es[j].c] 47)
        have hvs := ((hv.below b0).2.2.2.2 _ (List.getElem_mem hlt)).1
        have hys := hvj.2
        have hol := fun b (hb : (Value.slice PA es'.length pc).ownBlock = some b) => (hO.lt b hb).2
        have hnx := fun wc w9 v9 y bc hy hys ho9 hK9 hv9 => CP_next (lf := lf) (es := es) (A := some ⟨b, off, none⟩) (Q := Q) (c := c) (m := m) (wc := wc) (w9 := w9) (v9 := v9) (y := y) b0 k1 k2 hg kG hQ hQo hO hOo hOs bc hy hys ho9 hK9 hv9
        have hOg : ¬ (Value.slice PA es'.length pc).ownBlock = some g := fun e => (hOo _ e).2.1 rfl
        have hOx : ¬ (Value.slice PA es'.length pc).ownBlock = some wr.heap.size := fun e => by have := hol _ e; omega
        obtain ⟨j0, hj0, hj1, hj2, hj3⟩ := info_parts infoE
        have b0s := b0.size
        have HES := vers.lay hes
        have HMP : Hid (es'.map pe ++ [(es[j].s, es[j].l)] = (es.take (j + 1)).map pe) := vers.lay (by rw [hes.out, List.take_succ_eq_append_getElem hlt, List.map_append]; rfl)
        go_wp2_with fail
        generalize wr.alloc (.cells #[.string es[j].s, .slice es[j].A es[j].l.length es[j].c] 47) = W at *
        have y1 := kG1.cell 1
        have x0 := kX.cell 0
        have x1 := kX.cell 1
        simp at y1 x0 x1
        have lg := kG1.lt
        have lx := kX.lt
        have hOr := hO
        clear hO hOs hQ k1 k2 kG hOo hQo
        have hS1 : Below W.heap.size W W.drew := (Below.refl _ _).drew
        have hS0 : Keep (fun b => (Value.slice PA es'.length pc).ownBlock = some b) W W.drew := Keep.of_below hS1
        refine mix.region_D (fun w' => Keep (fun b => (Value.slice PA es'.length pc).ownBlock = some b) W w') (fun j => j == 7) (by kernel_rfl) ?_
        generalize W.drew = Wd at hS0 hS1 ⊢
        refine mix.D_take (i := 0) (v := ?_) rfl (by kernel_rfl) (by kernel_rfl) (fun _ _ _ h => h) (Or.inl ⟨by rfl, ?_⟩) hS0 ?_
        rotate_left
        · intro w' hSw
          have y0 := (hSw.cell (p := ⟨g, 1, none⟩) lg hOg).trans y1
          have y1 := (hSw.cell (p := ⟨wr.heap.size, 0, none⟩) lx hOx).trans x0
          have y2 := (hSw.cell (p := ⟨wr.heap.size, 1, none⟩) lx hOx).trans x1
          try simp only [List.getElem_toArray, List.getElem_cons_zero, List.getElem_cons_succ]
          go_simp
          exact rfl
        try simp only [Act.put, List.setIfInBounds_toArray, List.set_cons_zero, List.set_cons_succ, List.getElem_toArray, List.getElem_cons_zero, List.getElem_cons_succ]
        refine mix.D_take (i := 1) (v := ?_) rfl (by kernel_rfl) (by kernel_rfl) (fun _ _ _ h => h) (Or.inl ⟨by rfl, ?_⟩) hS0 ?_
        rotate_left
        · intro w' hSw
          have y0 := (hSw.cell (p := ⟨g, 1, none⟩) lg hOg).trans y1
          have y1 := (hSw.cell (p := ⟨wr.heap.size, 0, none⟩) lx hOx).trans x0
          have y2 := (hSw.cell (p := ⟨wr.heap.size, 1, none⟩) lx hOx).trans x1
          try simp only [List.getElem_toArray, List.getElem_cons_zero, List.getElem_cons_succ]
          go_simp
          exact rfl
        try simp only [Act.put, List.setIfInBounds_toArray, List.set_cons_zero, List.set_cons_succ, List.getElem_toArray, List.getElem_cons_zero, List.getElem_cons_succ]
        refine mix.D_take (i := 2) (v := ?_) rfl (by kernel_rfl) (by kernel_rfl) (fun _ _ _ h => h) (Or.inl ⟨by rfl, ?_⟩) hS0 ?_
        rotate_left
        · intro w' hSw
          have y0 := (hSw.cell (p := ⟨g, 1, none⟩) lg hOg).trans y1
          have y1 := (hSw.cell (p := ⟨wr.heap.size, 0, none⟩) lx hOx).trans x0
          have y2 := (hSw.cell (p := ⟨wr.heap.size, 1, none⟩) lx hOx).trans x1
          try simp only [List.getElem_toArray, List.getElem_cons_zero, List.getElem_cons_succ]
          go_simp
          exact rfl
        try simp only [Act.put, List.setIfInBounds_toArray, List.set_cons_zero, List.set_cons_succ, List.getElem_toArray, List.getElem_cons_zero, List.getElem_cons_succ]
        refine mix.D_op (k := 3) rfl rfl (by kernel_rfl) (fun K' hK => ?_)
        simp only [List.getElem_toArray, List.getElem_cons_zero, List.getElem_cons_succ]
        go_wp2_with fail
        have hb9 := bA.trans (hS1.mono bA.size)
        refine (vers.copy_any es[j].s es[j].l es[j].A es[j].c Wd ((hvs.below (hb9.mono b0s)).more (by have := hb9.size; omega))).mono ?_
        rintro x wb1 ⟨u, rfl, hOV, hs1⟩
        obtain ⟨A5, c5, rfl, _, _, _⟩ := row_rdF hOV.1
        have hbc := hb9.trans (hs1.mono hb9.size)
        have hbcW : Below W.heap.size W wb1 := hS1.trans (hs1.mono hS1.size)
        have hy5 : OwnVF wb1 (fun b => wr.heap.size ≤ b ∧ b < wb1.heap.size) ⟨es[j].s, es[j].l, A5, c5⟩ := ⟨ownsRow_base hOV.1 (fun b hb => Nat.zero_le _), hOV.2.1, hOV.2.2, fun b hb => by have := hOV.1.lt b hb; have := hb9.size; omega⟩
        have hb1 := hS0.seq hs1
        refine hK.out _ _ (fun _ => hb1) ?_
        clear hK K'
        try simp only [Act.put, List.setIfInBounds_toArray, List.set_cons_zero, List.set_cons_succ]
        refine mix.D_op (k := 4) rfl rfl (by kernel_rfl) (fun K' hK => ?_)
        simp only [List.getElem_toArray, List.getElem_cons_zero, List.getElem_cons_succ]
        go_wp2_with fail
        have hs2 : Below wb1.heap.size wb1 (wb1.alloc (.cells #[.string es[j].s, .slice A5 es[j].l.length c5] 47)) := (Below.refl _ _).alloc (Nat.le_refl _) _
        have hb2 := hb1.seq hs2
        refine hK.out _ _ (fun _ => hb2) ?_
        clear hK K'
        try simp only [Act.put, List.setIfInBounds_toArray, List.set_cons_zero, List.set_cons_succ]
        refine mix.D_op (k := 5) rfl rfl (by kernel_rfl) (fun K' hK => ?_)
        simp only [List.getElem_toArray, List.getElem_cons_zero, List.getElem_cons_succ]
        refine wp_put1 Try.underlying84 hj0 hj1 hj2 hj3 rfl (by decide) (.tmp 21) (.tmp 24) rfl (w := wb1) (v := .slice PA es'.length pc) (n := es'.length) (xs := cellsE es') (row_below hOr hbc) rfl rfl (by intro u hu; simp at hu; rcases hu with rfl | rfl <;> rfl) rfl rfl (by have := HLN.out; omega) (by have := HLN.out; unfold maxLen; omega) ?_
        intro v9 wb3 ho9 hK9 hv9 hs3
        have hb3 : Keep (fun b => (Value.slice PA es'.length pc).ownBlock = some b) W wb3 := hb1.trans hK9 (fun g hg _ => hg)
        obtain ⟨PA9, pc9, rfl, _, _, _⟩ := row_rdF ho9
        have hfin := hnx wb1 wb3 _ ⟨es[j].s, es[j].l, A5, c5⟩ hbc hy5 hys ho9 hK9 hv9
        have kG9 := hK9.blk (kG1.below hbcW lg) hOg
        have n0 := kG9.cell 1
        have nf := kG9.frozen 1
        simp at n0
        have nl := kG9.lt
        refine hK.out _ _ (fun _ => hb3) ?_
        clear hK K'
        try simp only [Act.put, List.setIfInBounds_toArray, List.set_cons_zero, List.set_cons_succ]
        refine mix.D_take (i := 6) (v := ?_) rfl (by kernel_rfl) (by kernel_rfl) (fun _ _ _ h => h) (Or.inl ⟨by rfl, ?_⟩) hb3 ?_
        rotate_left
        · intro w' hSw
          have y0 := (hSw.cell (p := ⟨g, 1, none⟩) lg hOg).trans y1
          have y1 := (hSw.cell (p := ⟨wr.heap.size, 0, none⟩) lx hOx).trans x0
          have y2 := (hSw.cell (p := ⟨wr.heap.size, 1, none⟩) lx hOx).trans x1
          try simp only [List.getElem_toArray, List.getElem_cons_zero, List.getElem_cons_succ]
          go_simp
          exact rfl
        try simp only [Act.put, List.setIfInBounds_toArray, List.set_cons_zero, List.set_cons_succ, List.getElem_toArray, List.getElem_cons_zero, List.getElem_cons_succ]
        refine mix.D_op (k := 7) rfl rfl (by kernel_rfl) (fun K' hK => ?_)
        simp only [List.getElem_toArray, List.getElem_cons_zero, List.getElem_cons_succ]
        go_wp2_with fail
        refine hK.out _ _ (fun h => by simp at h) ?_
        clear hK K'
        refine mix.D_done (by kernel_rfl) ?_ _
        try simp only [Act.put, List.setIfInBounds_toArray, List.set_cons_zero, List.set_cons_succ, List.getElem_toArray, List.getElem_cons_zero, List.getElem_cons_succ]
        go_wp2_with fail
        exact ⟨⟨j + 1, _, hlt, by go_num, vers.lay (by rw [List.map_append]; exact HMP.out), hfin⟩, by simp [intOf]; omega⟩

      · obtain rfl : j = es.length := by omega
        obtain ⟨b0, k1, k2, hg, v, Q5, m5, kG, hQ, hQo, hO, hOo, hOs⟩ := hC
        obtain ⟨PA, pc, rfl, hpc, hpn, hrd⟩ := row_rdF hO
        have c0 := kG.cell 0
        have c1 := kG.cell 1
        have c2 := kG.cell 2
        have z0 := k2.cell 0
        have z1 := k2.cell 1
        have z2 := k2.cell 2
        have f0 := k2.frozen 0
        have f1 := k2.frozen 1
        have f2 := k2.frozen 2
        simp at c0 c1 c2 z0 z1 z2
        have l2 := k2.lt
        have lg := kG.lt
        have kz := ((k2.put 0 (.bool lf)).put 1 (.slice PA es'.length pc)).put 2 (.slice Q5 ks.length m5)
        have bz := ((b0.setCell (p := ⟨w.heap.size + 1, 0, none⟩) (by simp) (.bool lf)).setCell (p := ⟨w.heap.size + 1, 1, none⟩) (by simp) (.slice PA es'.length pc)).setCell (p := ⟨w.heap.size + 1, 2, none⟩) (by simp) (.slice Q5 ks.length m5)
        have az := fun k (hk : k ≠ w.heap.size + 1) => three_heap wr (w.heap.size + 1) (.bool lf) (.slice PA es'.length pc) (.slice Q5 ks.length m5) k hk
        unfold trees.three at az
        simp at kz
        go_wp2_with fail
        generalize hwX : ((wr.setCell ⟨w.heap.size + 1, 0, none⟩ (.bool lf)).setCell ⟨w.heap.size + 1, 1, none⟩ (.slice PA es'.length pc)).setCell ⟨w.heap.size + 1, 2, none⟩ (.slice Q5 ks.length m5) = wX at kz bz az ⊢
        have z0 := kz.cell 0
        have z1 := kz.cell 1
        have z2 := kz.cell 2
        simp at z0 z1 z2
        refine bodyPost_ret (v := .agg #[.bool lf, .slice PA es'.length pc, .slice Q5 ks.length m5]) (by simp [results, Try.results117, go_sem, z0, z1, z2]) rfl ⟨bz, es', PA, pc, Q5, m5, rfl, ?_, ?_, ?_, ?_⟩
        · have := hes.out
          rwa [List.take_of_length_le (Nat.le_refl _)] at this
        · have hE : OwnEF wr (fun b => w.heap.size + 1 < b) es' (.slice PA es'.length pc) := ⟨hO, by have := congrArg List.length hes.out; simp at this; omega, (fun b hb => (hOo b hb).1), fun x hx => ⟨(hOs x hx).1.mono fun b hb => ⟨hb.1, fun e => hb.2.2 e.symm⟩, (hOs x hx).2⟩⟩
          obtain ⟨A', c', e, h'⟩ := hE.es
          injection e with e1 _ e2
          subst e1 e2
          exact (h'.agree fun b hb => az b (by omega)).es
        · have hE : OwnKF wr (fun b => w.heap.size + 1 < b) ks (.slice Q5 ks.length m5) := ⟨hQ, hk.2.1, (fun b hb => (hQo b hb).1), hk.2.2.2.2⟩
          obtain ⟨A', c', e, h'⟩ := hE.ks
          injection e with e1 _ e2
          subst e1 e2
          exact (h'.agree fun b hb => az b (by omega)).ks
        · have hlt1 := fun b (hb : (Value.slice PA es'.length pc).ownBlock = some b) => (hO.lt b hb).2
          have hlt2 := fun b (hb : (Value.slice Q5 ks.length m5).ownBlock = some b) => (hQ.lt b hb).2
          have hsz : wX.heap.size = wr.heap.size := by rw [← hwX]; simp
          have hE : OwnEF wr (fun b => w.heap.size + 1 < b ∧ b < wr.heap.size) es' (.slice PA es'.length pc) := ⟨hO, by have := congrArg List.length hes.out; simp at this; omega, (fun b hb => ⟨(hOo b hb).1, hlt1 b hb⟩), fun x hx => by
            have hx1 := (hOs x hx).1
            exact ⟨⟨hx1.1, hx1.2.1, hx1.2.2.1, fun b hb => ⟨⟨(hx1.2.2.2 b hb).1, (hx1.1.lt b hb).2⟩, fun e => (hx1.2.2.2 b hb).2.2 e.symm⟩⟩, (hOs x hx).2⟩⟩
          have hK : OwnKF wr (fun b => w.heap.size + 1 < b ∧ b < wr.heap.size) ks (.slice Q5 ks.length m5) := ⟨hQ, hk.2.1, (fun b hb => ⟨(hQo b hb).1, hlt2 b hb⟩), hk.2.2.2.2⟩
          have hN : OwnNF wr (fun b => w.heap.size + 1 < b ∧ b < wr.heap.size) ⟨lf, es', ks, PA, pc, Q5, m5⟩ := ⟨hE, hK, fun b hb => (hOo b hb).2.2⟩
          exact (hN.agree fun b hb => az b (by omega)).mono fun b hb => ⟨by omega, by rw [hsz]; exact hb.2⟩

end Go.Proofs.Ytoenkkbcpafanaa.nodes
