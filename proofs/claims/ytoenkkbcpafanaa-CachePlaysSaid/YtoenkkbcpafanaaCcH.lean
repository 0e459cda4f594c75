/- Cache's wipe, makeRoom, Wipe, Kept, Hits. -/
import Derived.Test.YtoenkkbcpafanaaCcG


namespace Go.Proofs.Ytoenkkbcpafanaa.caches
set_option linter.unusedVariables false
set_option linter.unusedSimpArgs false
open Go.RowKit Go.Proofs.Ytoenkkbcpafanaa.base Go.Proofs.Ytoenkkbcpafanaa.vers Go.Proofs.Ytoenkkbcpafanaa.nodes Go.Proofs.Ytoenkkbcpafanaa.trees

def outL {α : Type} (l : List α) (i : Nat) : List α := l.take i ++ l.drop (i + 1)
theorem outL_map {α β : Type} (φ : α → β) (l : List α) (i : Nat) : (outL l i).map φ = outL (l.map φ) i := by unfold outL; simp [List.map_take, List.map_drop]
theorem outL_len {α : Type} (l : List α) {i : Nat} (hi : i < l.length) : (outL l i).length = l.length - 1 := by unfold outL; simp; omega
theorem mvL_out {α : Type} (l : List α) {i : Nat} (hi : i < l.length) : mvL l i = outL l i ++ [l[i]] := mvL_eq l hi
def makeP (room : Nat) (l : List PH) : Int × List PH := if l.length < room then (0, l) else match freeP l with
  | none => (150, l)
  | some j => (0, outL l j)
section
variable {w w' w2 : World} {p g room f m : Nat} {Z : Nat → Prop} {l l' : List H}
theorem Ca.shorter {A L : List H} (h : Ca w p g Z room f m (A ++ L)) (hr : w'.ownsRow 0 110 8 (.slice (some ⟨g, 0, none⟩) A.length room) A.length (cellsH A)) (hk : Keep (fun b => b = g ∨ ∃ x ∈ L, x.F b) w w') :
    Ca (w'.setCell ⟨p, 0, none⟩ (.slice (some ⟨g, 0, none⟩) A.length room)) p g Z room f m A ∧ Keep Z w (w'.setCell ⟨p, 0, none⟩ (.slice (some ⟨g, 0, none⟩) A.length room)) := by
  have hpw := h.head.1
  have far : ∀ k, k ≠ p → (w'.setCell ⟨p, 0, none⟩ (.slice (some ⟨g, 0, none⟩) A.length room)).heap[k]? = w'.heap[k]? := fun k hk => Below.heap_setCell _ _ _ _ (by simpa using hk)
  have hpx : ∀ x ∈ A ++ L, ¬ x.F p := fun x hx e => ((h.node x hx).2 p e).2.1 rfl
  have kp : Blk w' p _ _ := hk.blk h.blk (by rintro (e | ⟨x, hx, e⟩); exact h.ne e.symm; exact hpx x (List.mem_append_right _ hx) e)
  refine ⟨⟨by simpa using kp.put 0 (.slice (some ⟨g, 0, none⟩) A.length room), ownsRow_agree hr fun b hb => (by cases hb; exact far g h.ne), h.cap, h.ne, fun b hb => by have := h.zlt b hb; have := hk.size; simp; omega, h.zp, h.zg, fun x hx => ⟨?_, (h.node x (List.mem_append_left _ hx)).2⟩, (List.pairwise_append.1 h.apart).1, fun x hx => h.fits x (List.mem_append_left _ hx)⟩, ?_⟩
  · have hN := h.node x (List.mem_append_left _ hx)
    refine hN.1.agree fun b hb => (far b (hN.2 b hb).2.1).trans (hk.block b (h.zlt b (hN.2 b hb).1) ?_)
    rintro (e | ⟨y, hy, e⟩)
    · exact (hN.2 b hb).2.2 e
    · exact (List.pairwise_append.1 h.apart).2.2 x hx y hy b hb e
  · refine (hk.mono (G := Z) ?_).trans (S1 := fun b => b = p) ⟨rfl, rfl, rfl, by simp, fun k _ hn => far k hn⟩ fun b e _ => (by subst e; exact h.zp)
    rintro b (e | ⟨y, hy, e⟩) _
    · rw [e]; exact h.zg
    · exact ((h.node y (List.mem_append_right _ hy)).2 b e).1
theorem Ca.zkeep (h : Ca w p g Z room f m l) (hk : Keep (fun b => b = g) w w') : Keep Z w w' := hk.mono fun b e _ => (by rw [e]; exact h.zg)
set_option maxRecDepth 100000 in
set_option maxHeartbeats 4000000 in
theorem wipe_ok (h : Ca w p g Z room f m l) {i : Nat} (hi : i < l.length) :
    Calls Try.prog 119 #[.pointer (some ⟨p, 0, none⟩), .int .i64 (i : Int)] w fun e w' => e = .returned (.tuple #[]) ∧ Ca w' p g Z room f m (outL l i) ∧ Keep Z w w' := by
  have hlen := h.len
  have hcap := h.cap
  have HC := vers.lay (putLast_ok h hi)
  have HZ := vers.lay (fun w' (hk : Keep (fun b => b = g) w w') => h.zkeep hk)
  have hol := outL_len l hi
  have hmo := mvL_out l hi
  obtain ⟨k, hk⟩ : ∃ k, l.length = k + 1 := ⟨l.length - 1, by omega⟩
  rw [hk] at hlen hol
  rw [Nat.add_sub_cancel] at hol
  obtain ⟨A, hA⟩ : ∃ A, outL l i = A := ⟨_, rfl⟩
  rw [hA] at hol hmo ⊢
  rw [hmo] at HC
  generalize l[i] = x at *
  clear h hA hmo hk
  have HO := vers.lay hol
  clear hol
  go_enter Try.func119, Try.ntmps119
  go_upto_region 1 with (go_at_call 114; refine HC.out.mono ?_; rintro e1 w1 ⟨rfl, h1, k1⟩)
  have H1 := vers.lay h1
  have HK1 := vers.lay (HZ.out _ k1)
  obtain ⟨hp, hg, x0, _, _, _⟩ := h1.head
  rw [List.length_append, List.length_singleton, HO.out] at x0
  have hFG := forget_any A [x] g room (room - k) w1 h1.row (by have := h1.len; omega) (fun y hy => (h1.node y (List.mem_append_right _ hy)).1) (fun y hy b hb => h1.zlt b ((h1.node y (List.mem_append_right _ hy)).2 b hb).1) (fun y hy b hb => ((h1.node y (List.mem_append_right _ hy)).2 b hb).2.2) (List.pairwise_singleton _ _)
  rw [HO.out] at hFG
  have HF := vers.lay hFG
  clear hFG h1 k1 HC
  have o1 : IntKind.i64.wrap ((k : Int) + 1 - 1) = (k : Int) := by rw [Int.add_sub_cancel]; exact IntWalk.i64_in _ (by omega)
  have o2 : IntKind.i64.wrap (k : Int) = (k : Int) := IntWalk.i64_in _ (by omega)
  have o3 : (0 : Int) ≤ (k : Int) := by omega
  have o4 : (k : Int) ≤ (k : Int) + 1 := by omega
  have o5 : (k : Int) ≤ (room : Int) := by omega
  have o6 : ¬ (room = k) := by omega
  have o7 : (k : Int) + 1 ≤ (room : Int) := by omega
  have o8 : k + 1 - k = 1 := by omega
  go_upto_region 3 with (go_at_call 120; refine HF.out.mono ?_; rintro e2 w2 ⟨rfl, hr2, k2⟩)
  obtain ⟨c2, z2⟩ := H1.out.shorter (A := A) (L := [x]) (w' := w2) (by rw [HO.out]; exact hr2) k2
  rw [HO.out] at c2 z2
  have kp := k2.blk H1.out.blk (by rintro (e | ⟨y, hy, e⟩); exact H1.out.ne e.symm; exact ((H1.out.node y (List.mem_append_right _ hy)).2 p e).2.1 rfl)
  have x2 := kp.cell 0
  have f2 := kp.frozen 0
  have l2 := kp.lt
  simp only [List.getElem?_toArray, List.getElem?_cons_zero, List.getElem?_cons_succ, List.length_append, List.length_singleton] at x2
  rw [HO.out] at x2
  have HC2 := vers.lay c2
  have HZ2 := vers.lay (HK1.out.trans z2 fun _ h _ => h)
  clear c2 z2 hr2 k2 kp x0
  go_wp2_with fail
  refine bodyPost_end (v := .tuple #[]) (by simp [results, Try.results119, go_sem]) rfl ⟨rfl, HC2.out, HZ2.out⟩

theorem below_drewN (w : World) (n : Nat) : Below w.heap.size w (w.drewN n) := ⟨rfl, rfl, rfl, Nat.le_refl _, fun _ _ => rfl⟩
set_option maxRecDepth 100000 in
set_option maxHeartbeats 4000000 in
theorem makeRoom_ok (h : Ca w p g Z room f m l) :
    Calls Try.prog 121 #[.pointer (some ⟨p, 0, none⟩)] w fun e w' => ∃ (E : Int) (l' : List H), e = .returned (.int .i64 E) ∧ (E, l'.map H.ph) = makeP room (l.map H.ph) ∧ Ca w' p g Z room f m l' ∧ Keep Z w w' := by
  have hlen := h.len
  have hcap := h.cap
  obtain ⟨hp, hg, x0, x1, _, _⟩ := h.head
  have HH := vers.lay h
  obtain ⟨n, hn⟩ : ∃ n, n = l.length := ⟨_, rfl⟩
  have HN := vers.lay hn
  rw [← hn] at hlen x0
  clear h hn
  by_cases hc : n < room
  · have d1 : decide ((n : Int) < (room : Int)) = true := decide_eq_true (by omega)
    have d2 : decide (n < room) = true := decide_eq_true hc
    have hM := vers.lay (show ((0 : Int), l.map H.ph) = makeP room (l.map H.ph) by unfold makeP; rw [if_pos (by rw [List.length_map, ← HN.out]; exact hc)])
    go_enter Try.func121, Try.ntmps121
    go_upto_region 1 with (fail)
    go_quiet (fail)
    go_wp2_with fail
    go_ret
    exact ⟨0, l, rfl, hM.out, HH.out.below (below_drewN _ _), Keep.of_below (below_drewN _ _)⟩
  · have d1 : decide ((n : Int) < (room : Int)) = false := decide_eq_false (by omega)
    have d2 : decide (n < room) = false := decide_eq_false hc
    have hM := fun e (he : freeP (l.map H.ph) = e) => (show makeP room (l.map H.ph) = _ by unfold makeP; rw [if_neg (by rw [List.length_map, ← HN.out]; exact hc), he])
    have hfl : ∀ j, freeP (l.map H.ph) = some j → j < l.length := fun j hj => by
      unfold freeP at hj
      rw [List.findIdx?_eq_some_iff_getElem] at hj
      obtain ⟨h, _⟩ := hj
      simpa using h
    go_enter Try.func121, Try.ntmps121
    go_upto_region 1 with (fail)
    go_quiet (fail)
    generalize hwq : w.drewN _ = wq at *
    have bq : Below w.heap.size w wq := by rw [← hwq]; exact below_drewN _ _
    have h1 := HH.out.below bq
    have hI := index_free h1
    rw [← HN.out, ← freeP_map] at hI
    obtain ⟨hp1, hg1, y0, y1, _, _⟩ := h1.head
    rw [← HN.out] at y0
    have H1 := vers.lay h1
    have BQ := vers.lay bq
    clear h1 bq hwq x0 x1
    cases hfr : freeP (l.map H.ph) with
    | none =>
      have hM1 := vers.lay (hM _ hfr)
      rw [hfr] at hI
      clear hM hfl hfr
      go_wp2_with (go_at_call 165; refine hI.mono ?_; rintro e1 w1 ⟨rfl, hb1⟩)
      go_ret
      exact ⟨150, l, rfl, hM1.out.symm, H1.out.below hb1, Keep.of_below (BQ.out.trans (hb1.mono BQ.out.size))⟩
    | some j =>
      have hM1 := vers.lay (hM _ hfr)
      have hj := hfl j hfr
      have HJ := vers.lay hj
      rw [hfr] at hI
      have j0 : decide ((j : Int) < 0) = false := decide_eq_false (by omega)
      clear hM hfl hfr hj
      go_upto_region 6 with (go_at_call 165; refine hI.mono ?_; rintro e1 w1 ⟨rfl, hb1⟩)
      have hw := wipe_ok (H1.out.below hb1) HJ.out
      go_wp2_with (go_at_call 119; refine hw.mono ?_; rintro e2 w2 ⟨rfl, h2, k2⟩)
      go_ret
      refine ⟨0, outL l j, rfl, ?_, h2, Keep.trans (S := Z) (Keep.of_below (BQ.out.trans (hb1.mono BQ.out.size))) k2 fun _ h _ => h⟩
      rw [hM1.out, outL_map]
end
end Go.Proofs.Ytoenkkbcpafanaa.caches
