/- slices.Delete of one secret. -/
import Derived.Test.YtnndohdiiglgmaaKDlA
import Derived.Test.YtnndohdiiglgmaaKTrJ
import Derived.Laws.OwnMore


namespace Go.Proofs.Ytnndohdiiglgmaa.trees
set_option linter.unusedVariables false
set_option linter.unusedSimpArgs false
open Go.RowKit Go.Shelf Go.Proofs.Ytnndohdiiglgmaa.base Go.Proofs.Ytnndohdiiglgmaa.vers Go.Proofs.Ytnndohdiiglgmaa.nodes Go.Proofs.Ytnndohdiiglgmaa.quotas
theorem clear_one (w : World) (ty : TypeId) (b o c : Nat) (t : TypeId) (cs : Array Value) (kb : Blk w b t cs) (h0 : o + 1 < cs.size) :
    (Builtin.clear_ #[57] ty #[.slice (some ⟨b, o, none⟩) 1 c]).run Try.prog w = .ok (.tuple #[]) ((w.setCell ⟨b, o, none⟩ (.string ⟨#[]⟩)).setCell ⟨b, o + 1, none⟩ (.slice none 0 0)) := by
  have hst := run_storeCells_cells (P := Try.prog) b o [.string ⟨#[]⟩, .slice none 0 0] 0 w
    (by intro j hj; rw [Nat.add_zero, kb.cell]; simp only [List.length_cons, List.length_nil] at hj; rw [Array.getElem?_eq_getElem (by omega)]; rfl)
    (by intro j hj; exact kb.frozen _) (by intro v hv; simp only [List.mem_cons, List.not_mem_nil, or_false] at hv; rcases hv with rfl | rfl <;> rfl)
  simp only [Nat.add_zero] at hst
  simp [Builtin.clear_, run_underlying Try.underlying57, Builtin.zeroCells, Value.cells]
  rw [show (List.map (fun i => [Value.string { data := #[] }, Value.slice none 0 0][i % 2]?.getD default) (List.range 2)) = [.string ⟨#[]⟩, .slice none 0 0] from rfl, hst]
  rfl
/-- the row without one of its secrets -/
def DlPost (l : List E) (g cap k : Nat) (w : World) (w' : World) : Prop :=
  w'.ownsRow 0 47 2 (.slice (some ⟨g, 0, none⟩) (l.length - 1) cap) (l.length - 1) (cellsE (l.take k ++ l.drop (k + 1))) ∧ Keep (fun q => q = g) w w'
theorem keep_sete {w0 wr : World} {P : Nat → Prop} (h1 : Keep P w0 wr) {b : Nat} (hb : P b) (o : Nat) (u : Value) : Keep P w0 (wr.setCell ⟨b, o, none⟩ u) :=
  ⟨h1.os, h1.tape, h1.output, by simpa using h1.size, fun k hk hn => by
    rw [Below.heap_setCell _ _ _ _ (fun e => hn (by rw [e]; exact hb))]
    exact h1.block k hk hn⟩
theorem delete_runs (l : List E) (g cap k : Nat) (ty : TypeId) (w : World) (ho : w.ownsRow 0 47 2 (.slice (some ⟨g, 0, none⟩) l.length cap) l.length (cellsE l)) (hk : k < l.length) (ad : Addr) (had : ad = ⟨g, (k + 1) * 2, none⟩ ∨ l.length = k + 1) :
    ∃ w1 w2, (Builtin.append_ #[57, 57] ty #[.slice (some ⟨g, 0, none⟩) k cap, .slice (some ad) (l.length - (k + 1)) (cap - (k + 1))]).run Try.prog w = .ok (.slice (some ⟨g, 0, none⟩) (l.length - 1) cap) w1 ∧
      (∀ ty2, (Builtin.clear_ #[57] ty2 #[.slice (some ⟨g, (l.length - 1) * 2, none⟩) 1 (cap - (l.length - 1))]).run Try.prog w1 = .ok (.tuple #[]) w2) ∧ DlPost l g cap k w w2 := by
  obtain ⟨i0, hi0, hz0, hz1, hz2⟩ := info_parts infoE
  obtain ⟨hx, h1⟩ := ho
  rcases h1 with ⟨h, _⟩ | ⟨g', cap', cur, h, hg, hb, hnc, hcm, hcs, ht⟩
  · simp at h
  · simp only [Value.slice.injEq, Option.some.injEq, Addr.mk.injEq, and_true, true_and] at h
    obtain ⟨rfl, rfl⟩ := h
    have kb : Blk w g 47 cur := hb
    have el : cellsE l = cellsE (l.take k) ++ cellsE (l.drop k) := by rw [← cellsE_app, List.take_append_drop]
    have e1 : (cellsE (l.take k)).length = k * 2 := by rw [cellsE_len, List.length_take]; omega
    have hpre : w.ownsRow 0 47 2 (.slice (some ⟨g, 0, none⟩) k cap) k (cellsE (l.take k)) := by
      refine ⟨e1, .inr ⟨g, cap, cur, rfl, hg, hb, by omega, hcm, hcs, ?_⟩⟩
      have := congrArg (List.take (k * 2)) ht
      rw [List.take_take, Nat.min_eq_left (by omega), el, List.take_left' e1] at this
      exact this
    have hnews : ∀ j u, (cellsE (l.drop (k + 1)))[j]? = some u → w.cell? (ad.add j) = some u := fun j u hj => by
      have had : ad = ⟨g, (k + 1) * 2, none⟩ := had.resolve_right (fun e => by rw [List.drop_eq_nil_of_le (by omega)] at hj; cases hj)
      rw [had, add_plain, kb.cell, ← Array.getElem?_toList]
      have el2 : cellsE l = cellsE (l.take (k + 1)) ++ cellsE (l.drop (k + 1)) := by rw [← cellsE_app, List.take_append_drop]
      have e2 : (cellsE (l.take (k + 1))).length = (k + 1) * 2 := by rw [cellsE_len, List.length_take]; omega
      have h3 : (cellsE l)[(k + 1) * 2 + j]? = some u := by rw [el2, List.getElem?_append_right (by omega), e2, show (k + 1) * 2 + j - (k + 1) * 2 = j by omega]; exact hj
      rw [← ht, List.getElem?_take] at h3
      split at h3
      · exact h3
      · cases h3
    obtain ⟨w1, hr, ho1, hgr⟩ := run_append_fits (P := Try.prog) (w := w) 0 57 ty 47 i0 2 Try.underlying57 hi0 hz1 g k cap _ hpre ad (l.length - (k + 1)) (cap - (k + 1)) (cellsE (l.drop (k + 1))) (by rw [cellsE_len, List.length_drop]; omega) hnews (cellsE_one _) (by omega)
    rw [show k + (l.length - (k + 1)) = l.length - 1 by omega] at hr ho1
    rw [← cellsE_app] at ho1
    obtain ⟨hx1, h2⟩ := ho1
    rcases h2 with ⟨h, _⟩ | ⟨g', cap', cur1, h, hg1, hb1, hnc1, hcm1, hcs1, ht1⟩
    · simp at h
    · simp only [Value.slice.injEq, Option.some.injEq, Addr.mk.injEq, and_true, true_and] at h
      obtain ⟨rfl, rfl⟩ := h
      have kb1 : Blk w1 g 47 cur1 := hb1
      refine ⟨w1, _, hr, fun ty2 => clear_one w1 ty2 g ((l.length - 1) * 2) _ _ cur1 kb1 (by omega), ?_⟩
      have kz := (kb1.put ((l.length - 1) * 2) (.string ⟨#[]⟩)).put ((l.length - 1) * 2 + 1) (.slice none 0 0)
      have K1 : Keep (fun q => q = g) w w1 := ⟨hgr.os, hgr.tape, hgr.output, hgr.size, fun q hq hn => hgr.block q hq (fun e => hn (by cases e; rfl))⟩
      refine ⟨⟨hx1, .inr ⟨g, cap, _, rfl, hg1, kz, hnc1, hcm1, by simpa using hcs1, ?_⟩⟩, keep_sete (keep_sete K1 rfl _ _) rfl _ _⟩
      rw [Array.toList_setIfInBounds, Array.toList_setIfInBounds, List.take_set_of_le (by omega), List.take_set_of_le (by omega)]
      exact ht1
theorem step_append_run2 {P : Program} {ops : Array Oper} {o : Oper} {a : Act} {w : World} {K : Act → World → Prop} {Q : Exit → Act → World → Prop} {E : Prop}
    (hg : o.guard = none) (d x : Operand) (dT sT : TypeId) (hop : o.op = Op.call { callee := Callee.builtin Builtin.append, args := #[d, x], argTypes := #[dT, sT] })
    (v u : Value) (hd : a.eval d = v) (hx : a.eval x = u) {v' : Value} {w' : World} (hr : (Builtin.append_ #[dT, sT] o.type #[v, u]).run P w = .ok v' w') (hK : K (a.put o.dst v') w') :
    if Region.wanted o (yielded ops a.tmps) = true then Oper.wp P o a w K Q else E := by
  have hw : Region.wanted o (yielded ops a.tmps) = true := by simp [Region.wanted, hg]
  rw [if_pos hw]
  unfold Oper.wp
  simp [execOp, hop, resolve, invoke, builtin, hd, hx, hr, Result.andThen]
  exact hK
set_option maxRecDepth 100000 in
set_option maxHeartbeats 4000000 in
theorem delete_any (l : List E) (g cap k : Nat) (w : World) (ho : w.ownsRow 0 47 2 (.slice (some ⟨g, 0, none⟩) l.length cap) l.length (cellsE l)) (hk : k < l.length) (hl : l.length ≤ 1000) :
    Calls Try.prog 49 #[.slice (some ⟨g, 0, none⟩) l.length cap, .int .i64 (k : Int), .int .i64 ((k : Int) + 1)] w fun e w' => e = .returned (.slice (some ⟨g, 0, none⟩) (l.length - 1) cap) ∧ DlPost l g cap k w w' := by
  have HC := fun ad had => delete_runs l g cap k 57 w.drew ho hk ad had
  have hcap : l.length ≤ cap := by
    rcases ho.2 with ⟨h, _⟩ | ⟨g', cap', cur, h, _, _, hnc, _⟩
    · simp at h
    · simp only [Value.slice.injEq] at h
      rw [h.2.2]; exact hnc
  have HC2 := vers.lay HC
  clear HC ho
  obtain ⟨n, hn⟩ : ∃ n, n = l.length := ⟨_, rfl⟩
  rw [← hn] at hk hl hcap ⊢
  have HN := vers.lay hn
  clear hn
  have n1 : ¬ ((k : Int) = (k : Int) + 1) := by omega
  have n2 : (k : Int) + 1 ≤ (cap : Int) := by omega
  have n3 : ((k : Int) + 1).toNat = k + 1 := by omega
  have n4 : (k : Int) ≤ (k : Int) + 1 := by omega
  have n7 : (k : Int) ≤ (n : Int) := by omega
  have n8 : (k : Int) + 1 ≤ (n : Int) := by omega
  have d1 : ((k : Int) == (k : Int) + 1) = false := by rw [beq_eq_false_iff_ne]; omega
  have n9 : (k : Int) ≤ (cap : Int) := by omega
  have m9 : (0 : Int) ≤ (k : Int) + 1 := by omega
  have c0 : ¬ (cap = k) := by omega
  rcases Nat.lt_or_ge (k + 1) cap with hlt | hge
  · have c1 : ¬ (cap = k + 1) := by omega
    go_enter Try.func49, Try.ntmps49
    go_wp2_with fail
    obtain ⟨w1, w2, hr, hc, hp⟩ := HC2.out _ (.inl rfl)
    have hp : DlPost l g cap k w w2 := ⟨hp.1, ⟨hp.2.os, hp.2.tape, hp.2.output, hp.2.size, hp.2.block⟩⟩
    have hlen := HN.out
    rw [← hlen] at hr hc
    clear HC2 HN hlen
    go_region_law (refine step_append_run2 rfl _ _ 57 57 rfl _ _ (by simp [Act.eval, Act.put]) (by simp [Act.eval, Act.put]) hr ?_)
    obtain ⟨m, hm⟩ : ∃ m, m = n - 1 := ⟨_, rfl⟩
    have o1 : (m : Int) ≤ (n : Int) := by omega
    have o2 : ¬ (cap = m) := by omega
    have o3 : (n : Int) ≤ (cap : Int) := by omega
    have o4 : n - m = 1 := by omega
    have o5 : (m : Int) ≤ (cap : Int) := by omega
    have HM := vers.lay hm
    rw [← hm] at hc ⊢
    clear hm hr hcap hlt
    go_wp2_with fail
    go_ret
    exact ⟨by rw [HM.out]; rfl, hp⟩
  · have hck : cap = k + 1 := by omega
    have hnk : n = k + 1 := by omega
    subst hck hnk
    go_enter Try.func49, Try.ntmps49
    go_wp2_with fail
    obtain ⟨w1, w2, hr, hc, hp⟩ := HC2.out ⟨g, 0, none⟩ (.inr HN.out.symm)
    have hp : DlPost l g (k + 1) k w w2 := ⟨hp.1, ⟨hp.2.os, hp.2.tape, hp.2.output, hp.2.size, hp.2.block⟩⟩
    have hlen := HN.out
    rw [← hlen] at hr hc
    clear HC2 HN hlen
    simp only [Nat.sub_self, Nat.add_sub_cancel] at hr hc
    go_region_law (refine step_append_run2 rfl _ _ 57 57 rfl _ _ (by simp [Act.eval, Act.put]) (by simp [Act.eval, Act.put]) hr ?_)
    have o4 : k + 1 - k = 1 := by omega
    rw [o4] at hc
    clear hr o4
    go_wp2_with fail
    go_ret
    exact ⟨rfl, hp⟩
end Go.Proofs.Ytnndohdiiglgmaa.trees
