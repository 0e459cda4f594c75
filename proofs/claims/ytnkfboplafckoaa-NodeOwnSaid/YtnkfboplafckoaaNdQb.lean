/- append of one element, as one step of a region that draws its order. -/
import Derived.Test.YtnkfboplafckoaaNdQ


namespace Go.Proofs.Ytnkfboplafckoaa.nodes
set_option linter.unusedVariables false
set_option linter.unusedSimpArgs false
open Go.RowKit Go.Proofs.Ytnkfboplafckoaa.base Go.Proofs.Ytnkfboplafckoaa.quotas Go.Proofs.Ytnkfboplafckoaa.vers Go.Proofs.Ytnkfboplafckoaa.tm Go.Proofs.Ytnkfboplafckoaa.lies Go.Proofs.Ytnkfboplafckoaa.copies Go.Proofs.Ytnkfboplafckoaa.makes

section
variable {P : Program}
theorem wp_one {e tS : TypeId} {i0 : TypeInfo} {z : Value} {size bytes : Nat} (hun : P.underlying tS = some (.slice e)) (hi0 : P.info? e = some i0) (hz0 : i0.zero = some z) (hz1 : i0.size = size) (hz2 : i0.bytes = bytes) (hzs : z.cells.size = size) (hsz : 0 < size)
    {o : Oper} {a : Act} {K : Act → World → Prop} {Q : Exit → Act → World → Prop} (s x : Operand)
    (ho : o.op = .call { callee := .builtin .append, args := #[s, x], argTypes := #[tS, tS] })
    {lo : Nat} {w : World} {v : Value} {n : Nat} {xs : List Value} {cs : Array Value} (hown : w.ownsRow lo e size v n xs) (hs : a.eval s = v) (hlo : lo ≤ w.heap.size) (hcs : cs.toList.length = size) (h1 : ∀ u ∈ cs.toList, u.oneCell' = true)
    {q : Nat} (hx : a.eval x = .slice (some ⟨q, 0, none⟩) 1 1) (hqz : q = w.heap.size) (hlen : (n + 1) * bytes ≤ 140737488355328) (hmax : n + 1 ≤ maxLen)
    (h : ∀ v' w', w'.ownsRow lo e size v' (n + 1) (xs ++ cs.toList) → Below lo w w' → w.heap.size ≤ w'.heap.size → (∀ p : Addr, p.block < w.heap.size → some p.block ≠ v.ownBlock → w'.cell? p = w.cell? p) → (v'.ownBlock = v.ownBlock ∨ ∃ k, v'.ownBlock = some k ∧ w.heap.size ≤ k) → (∀ g T c, T ≠ e → Blk w g T c → Blk w' g T c) → K (a.put o.dst v') w') :
    Oper.wp P o a (w.alloc (.cells cs e)) K Q := by
  subst hqz
  have hownA : (w.alloc (.cells cs e)).ownsRow lo e size v n xs := hown.kept (grown_below (World.grownBy.refl w none) ((Below.refl _ _).alloc (Nat.le_refl _) _)) (by cases v.ownBlock with | none => exact .inl rfl | some k => exact .inr (fun e => by cases e))
  have hnews := World.news_of_block (cs := cs) (t := e) (fr := (0, 0)) (heap_alloc_new w (.cells cs e))
  obtain ⟨v', w', hr, ho', hg, _, hat⟩ := run_append_own_at (P := P) (w.alloc (.cells cs e)) lo tS o.type e i0 z size bytes hun hi0 hz0 hz1 hz2 hzs hsz v n xs hownA ⟨w.heap.size, 0, none⟩ 1 1 cs.toList (by omega) hnews h1 hmax hlen (by simp; omega)
  unfold Oper.wp execOp
  simp only [ho, resolve, invoke, builtin, Sem.run_bind, Sem.run_pure, Result.andThen_ok, List.map_toArray, List.map_cons, List.map_nil, hs, hx, hr]
  have hz := hg.size
  simp only [World.size_alloc] at hz
  have hown0 : ∀ k, v.ownBlock = some k → lo ≤ k ∧ k < w.heap.size := hown.lt
  have hkeep : ∀ p : Addr, p.block < w.heap.size → some p.block ≠ v.ownBlock → w'.cell? p = w.cell? p := fun p hp hne => by
    rw [World.cell?_of_block (hg.block p.block (by simp; omega) hne), World.cell?_alloc_lt _ _ _ hp]
  refine h v' w' ho' (((Below.refl lo w).alloc hlo _).grown hg (by simp; omega) fun k hk => (hown0 k hk).1) (by omega) hkeep ?_ ?_
  · rcases hat with e1 | e1
    · exact .inl e1
    · exact .inr ⟨_, e1, by simp⟩
  · intro g T c hT hb
    have hb1 := Blk.alloc hb (.cells cs e)
    refine (hg.block g hb1.lt fun e1 => ?_).trans hb1
    rcases hownA.2 with ⟨rfl, _⟩ | ⟨g', cap, cur, rfl, _, hh, _⟩
    · simp [Value.ownBlock] at e1
    · simp [Value.ownBlock] at e1
      subst e1
      unfold Blk at hb1
      rw [hh] at hb1
      injection hb1 with hb1
      injection hb1 with _ hb1
      exact hT hb1.symm
end
theorem OwnK.shape {lo : Nat} {w : World} {l : List K} {v : Value} (h : OwnK lo w l v) : ∃ A n c, v = .slice A n c ∧ Hid (n = l.length) := by
  obtain ⟨A, c, e, _⟩ := h.hks
  exact ⟨A, _, c, e, vers.lay rfl⟩
theorem OwnE.shape {lo : Nat} {w : World} {l : List E} {v : Value} (h : OwnE lo w l v) : ∃ A n c, v = .slice A n c ∧ Hid (n = l.length) := by
  obtain ⟨A, c, e, _⟩ := h.hes
  exact ⟨A, _, c, e, vers.lay rfl⟩
theorem wp_V {o : Oper} {a : Act} {K : Act → World → Prop} {Q : Exit → Act → World → Prop} (s x : Operand)
    (ho : o.op = .call { callee := .builtin .append, args := #[s, x], argTypes := #[51, 51] })
    {lo : Nat} {w : World} {v : Value} {l : List V} {y : V} (hown : OwnV lo w l v) (hs : a.eval s = v) (hlo : lo ≤ w.heap.size) (hy : y.fits) {cs : Array Value} (hcs : cs.toList = y.cells)
    {q : Nat} (hx : a.eval x = .slice (some ⟨q, 0, none⟩) 1 1) (hqz : q = w.heap.size) (hlen : (l.length + 1) * 40 ≤ 140737488355328)
    (h : ∀ v' w', OwnV lo w' (l ++ [y]) v' → Below lo w w' → w.heap.size ≤ w'.heap.size → (∀ p : Addr, p.block < w.heap.size → some p.block ≠ v.ownBlock → w'.cell? p = w.cell? p) → (∀ g T c, T ≠ 55 → Blk w g T c → Blk w' g T c) → K (a.put o.dst v') w') :
    Oper.wp Try.prog o a (w.alloc (.cells cs 55)) K Q := by
  obtain ⟨i0, hi0, hz0, hz1, hz2⟩ := info_parts infoV
  refine wp_one Try.underlying51 hi0 hz0 hz1 hz2 rfl (by decide) s x ho hown.1 hs hlo (by rw [hcs]; rfl) ?_ hx hqz hlen (by unfold maxLen; omega) ?_
  · intro u hu; rw [hcs] at hu; simp [V.cells] at hu; rcases hu with rfl | rfl | rfl <;> rfl
  · intro v' w' h1 h2 h3 h4 _ h6
    refine h v' w' ⟨?_, by rw [List.length_append]; exact hlen, fun z hz => ?_⟩ h2 h3 h4 h6
    · rw [hcs] at h1
      rw [List.length_append, cellsV_app]
      simpa [cellsV] using h1
    · rcases List.mem_append.1 hz with hz | hz
      · exact hown.2.2 z hz
      · rw [List.mem_singleton.1 hz]; exact hy
theorem wp_K {o : Oper} {a : Act} {K' : Act → World → Prop} {Q : Exit → Act → World → Prop} (s x : Operand)
    (ho : o.op = .call { callee := .builtin .append, args := #[s, x], argTypes := #[25, 25] })
    {lo : Nat} {w : World} {v : Value} {l : List K} {y : K} (hown : OwnK lo w l v) (hs : a.eval s = v) (hlo : lo ≤ w.heap.size) (hy : y.fits) {cs : Array Value} (hcs : cs.toList = y.cells)
    {q : Nat} (hx : a.eval x = .slice (some ⟨q, 0, none⟩) 1 1) (hqz : q = w.heap.size) (hlen : (l.length + 1) * 48 ≤ 140737488355328)
    (h : ∀ v' w', OwnK lo w' (l ++ [y]) v' → Below lo w w' → w.heap.size ≤ w'.heap.size → (∀ p : Addr, p.block < w.heap.size → some p.block ≠ v.ownBlock → w'.cell? p = w.cell? p) → (∀ g T c, T ≠ 43 → Blk w g T c → Blk w' g T c) → K' (a.put o.dst v') w') :
    Oper.wp Try.prog o a (w.alloc (.cells cs 43)) K' Q := by
  obtain ⟨i0, hi0, hz0, hz1, hz2⟩ := info_parts infoK
  refine wp_one Try.underlying25 hi0 hz0 hz1 hz2 rfl (by decide) s x ho hown.1 hs hlo (by rw [hcs]; rfl) ?_ hx hqz hlen (by unfold maxLen; omega) ?_
  · intro u hu; rw [hcs] at hu; simp [K.cells] at hu; rcases hu with rfl | rfl | rfl | rfl | rfl <;> rfl
  · intro v' w' h1 h2 h3 h4 _ h6
    refine h v' w' ⟨?_, by rw [List.length_append]; exact hlen, fun z hz => ?_⟩ h2 h3 h4 h6
    · rw [hcs] at h1
      rw [List.length_append, cellsK_app]
      simpa [cellsK] using h1
    · rcases List.mem_append.1 hz with hz | hz
      · exact hown.2.2 z hz
      · rw [List.mem_singleton.1 hz]; exact hy
theorem wp_E {o : Oper} {a : Act} {K' : Act → World → Prop} {Q : Exit → Act → World → Prop} (s x : Operand)
    (ho : o.op = .call { callee := .builtin .append, args := #[s, x], argTypes := #[24, 24] })
    {lo lo' hi : Nat} {w : World} {v : Value} {l : List E} {y : E} (hown : OwnE lo w l v) (hs : a.eval s = v) (hlo : lo ≤ w.heap.size) (hy : HVs w lo' hi y.l y.A y.c) (hys : y.s.size ≤ maxLen) (hhi : hi ≤ w.heap.size) (hlo' : lo ≤ lo') (hle : ∀ k, v.ownBlock = some k → k < lo') {cs : Array Value} (hcs : cs.toList = y.cells)
    {q : Nat} (hx : a.eval x = .slice (some ⟨q, 0, none⟩) 1 1) (hqz : q = w.heap.size) (hlen : (l.length + 1) * 40 ≤ 140737488355328)
    (h : ∀ v' w', OwnE lo w' (l ++ [y]) v' → Below lo w w' → w.heap.size ≤ w'.heap.size → (∀ p : Addr, p.block < w.heap.size → some p.block ≠ v.ownBlock → w'.cell? p = w.cell? p) → (∀ g T c, T ≠ 53 → Blk w g T c → Blk w' g T c) → K' (a.put o.dst v') w') :
    Oper.wp Try.prog o a (w.alloc (.cells cs 53)) K' Q := by
  obtain ⟨i0, hi0, hz0, hz1, hz2⟩ := info_parts infoE
  refine wp_one Try.underlying24 hi0 hz0 hz1 hz2 rfl (by decide) s x ho hown.1 hs hlo (by rw [hcs]; rfl) ?_ hx hqz hlen (by unfold maxLen; omega) ?_
  · intro u hu; rw [hcs] at hu; simp [E.cells] at hu; rcases hu with rfl | rfl <;> rfl
  · intro v' w' h1 h2 h3 h4 h5 h6
    have hold : ∀ p : Addr, p.block < w.heap.size → some p.block ≠ v.ownBlock → some p.block ≠ v'.ownBlock := fun p p2 p3 e => by
      rcases h5 with e1 | ⟨k, e1, hk⟩
      · exact p3 (by rw [← e1]; exact e)
      · rw [e1] at e; injection e with e; omega
    refine h v' w' ⟨?_, by rw [List.length_append]; exact hlen, fun w2 B2 hB hf z hz => ?_⟩ h2 h3 h4 h6
    · rw [hcs] at h1
      rw [List.length_append, cellsE_app]
      simpa [cellsE] using h1
    · rcases List.mem_append.1 hz with hz | hz
      · exact hown.2.2 w2 B2 (by omega) (fun p p1 p2 p3 => (hf p p1 (by omega) (hold p p2 p3)).trans (h4 p p2 p3)) z hz
      · rw [List.mem_singleton.1 hz]
        refine ⟨hy w2 B2 (by omega) fun p p1 p2 => ?_, hys⟩
        have hne : some p.block ≠ v.ownBlock := fun e => by have := hle _ e.symm; omega
        exact (hf p (by omega) (by omega) (hold p (by omega) hne)).trans (h4 p (by omega) hne)
end Go.Proofs.Ytnkfboplafckoaa.nodes
