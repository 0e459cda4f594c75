/- The document's book: New, form, Get, without. -/
import Derived.Test.YtjlglfjikfpboaaBkY


namespace Go.Proofs.Ytjlglfjikfpboaa.books
set_option linter.unusedVariables false
set_option linter.unusedSimpArgs false
open Go.RowKit Go.Shelf Go.Proofs.Ytjlglfjikfpboaa.base Go.Proofs.Ytjlglfjikfpboaa.quotas Go.Proofs.Ytjlglfjikfpboaa.vers Go.Proofs.Ytjlglfjikfpboaa.nodes Go.Proofs.Ytjlglfjikfpboaa.trees Go.Proofs.Ytjlglfjikfpboaa.texts

abbrev RV (q : Qt) (x y : Value) : Value := .agg #[.int .i64 q.a, .int .i64 q.b, .int .i64 q.c, .int .i64 q.d, .int .i64 q.e, .int .i64 q.f, .int .i64 q.h, x, y]
abbrev RC (q : Qt) (x y : Value) : Array Value := #[.int .i64 q.a, .int .i64 q.b, .int .i64 q.c, .int .i64 q.d, .int .i64 q.e, .int .i64 q.f, .int .i64 q.h, x, y]
def nine (w : World) (g : Nat) (q : Qt) (x y : Value) : World := ((((((((w.setCell ⟨g, 0, none⟩ (.int .i64 q.a)).setCell ⟨g, 1, none⟩ (.int .i64 q.b)).setCell ⟨g, 2, none⟩ (.int .i64 q.c)).setCell ⟨g, 3, none⟩ (.int .i64 q.d)).setCell ⟨g, 4, none⟩ (.int .i64 q.e)).setCell ⟨g, 5, none⟩ (.int .i64 q.f)).setCell ⟨g, 6, none⟩ (.int .i64 q.h)).setCell ⟨g, 7, none⟩ x).setCell ⟨g, 8, none⟩ y
theorem nine_heap (w : World) (g : Nat) (q : Qt) (x y : Value) (k : Nat) (h : k ≠ g) : (nine w g q x y).heap[k]? = w.heap[k]? := by
  unfold nine
  iterate 9 rw [Below.heap_setCell _ _ _ _ (by simpa using h)]
theorem nine_size (w : World) (g : Nat) (q : Qt) (x y : Value) : (nine w g q x y).heap.size = w.heap.size := by simp [nine]
theorem nine_below {B g : Nat} {a w : World} (h : Below B a w) (hg : B ≤ g) (q : Qt) (x y : Value) : Below B a (nine w g q x y) := by
  unfold nine
  exact ((((((((h.setCell (p := ⟨g, 0, none⟩) hg _).setCell (p := ⟨g, 1, none⟩) hg _).setCell (p := ⟨g, 2, none⟩) hg _).setCell (p := ⟨g, 3, none⟩) hg _).setCell (p := ⟨g, 4, none⟩) hg _).setCell (p := ⟨g, 5, none⟩) hg _).setCell (p := ⟨g, 6, none⟩) hg _).setCell (p := ⟨g, 7, none⟩) hg _).setCell (p := ⟨g, 8, none⟩) hg _
theorem nine_blk {w : World} {g : Nat} {t : TypeId} {a0 a1 a2 a3 a4 a5 a6 a7 a8 : Value} (h : Blk w g t #[a0, a1, a2, a3, a4, a5, a6, a7, a8]) (q : Qt) (x y : Value) : Blk (nine w g q x y) g t (RC q x y) := by
  have := ((((((((h.put 0 (.int .i64 q.a)).put 1 (.int .i64 q.b)).put 2 (.int .i64 q.c)).put 3 (.int .i64 q.d)).put 4 (.int .i64 q.e)).put 5 (.int .i64 q.f)).put 6 (.int .i64 q.h)).put 7 x).put 8 y
  unfold nine
  simpa using this
theorem cells9 {w : World} {g : Nat} {t : TypeId} {a0 a1 a2 a3 a4 a5 a6 a7 a8 : Value} (h : Blk w g t #[a0, a1, a2, a3, a4, a5, a6, a7, a8]) :
    (w.cell? ⟨g, 0, none⟩ = some a0 ∧ w.cell? ⟨g, 1, none⟩ = some a1 ∧ w.cell? ⟨g, 2, none⟩ = some a2 ∧ w.cell? ⟨g, 3, none⟩ = some a3 ∧ w.cell? ⟨g, 4, none⟩ = some a4 ∧ w.cell? ⟨g, 5, none⟩ = some a5 ∧ w.cell? ⟨g, 6, none⟩ = some a6 ∧ w.cell? ⟨g, 7, none⟩ = some a7 ∧ w.cell? ⟨g, 8, none⟩ = some a8) ∧
    (w.frozen? ⟨g, 0, none⟩ = false ∧ w.frozen? ⟨g, 1, none⟩ = false ∧ w.frozen? ⟨g, 2, none⟩ = false ∧ w.frozen? ⟨g, 3, none⟩ = false ∧ w.frozen? ⟨g, 4, none⟩ = false ∧ w.frozen? ⟨g, 5, none⟩ = false ∧ w.frozen? ⟨g, 6, none⟩ = false ∧ w.frozen? ⟨g, 7, none⟩ = false ∧ w.frozen? ⟨g, 8, none⟩ = false) := by
  refine ⟨⟨?_, ?_, ?_, ?_, ?_, ?_, ?_, ?_, ?_⟩, h.frozen 0, h.frozen 1, h.frozen 2, h.frozen 3, h.frozen 4, h.frozen 5, h.frozen 6, h.frozen 7, h.frozen 8⟩
  · have := h.cell 0; simpa using this
  · have := h.cell 1; simpa using this
  · have := h.cell 2; simpa using this
  · have := h.cell 3; simpa using this
  · have := h.cell 4; simpa using this
  · have := h.cell 5; simpa using this
  · have := h.cell 6; simpa using this
  · have := h.cell 7; simpa using this
  · have := h.cell 8; simpa using this
abbrev Z9 : Array Value := #[.int .i64 0, .int .i64 0, .int .i64 0, .int .i64 0, .int .i64 0, .int .i64 0, .int .i64 0, .slice none 0 0, .slice none 0 0]

set_option maxRecDepth 100000 in
set_option maxHeartbeats 2000000 in
theorem form_any (q : Qt) (o : O) (w : World) :
    Calls Try.prog 107 #[.agg #[.int .i64 q.a, .int .i64 q.b, .int .i64 q.c, .int .i64 q.d, .int .i64 q.e, .int .i64 q.f, .int .i64 q.h], .agg #[.int .i64 o.k, .string o.s, .string o.v, .string o.t]] w fun e w' => e = .returned (.int .i64 (rightO q o)) ∧ Below w.heap.size w w' := by
  obtain ⟨x0, x1, b2⟩ := boxes2 q o w
  obtain ⟨qa, qb, qc, qd, qe, qf, qh⟩ := q
  obtain ⟨k, s, v, t⟩ := o
  unfold rightO
  simp only [] at x0 x1 b2 ⊢
  by_cases k1 : k = 1
  · subst k1
    rw [if_neg (fun h => h.1 rfl)]
    by_cases h2 : s.size = 0
    · rw [if_pos h2]
      have d2 := empty_yes h2
      clear h2
      go_enter Try.func107, Try.ntmps107
      go_wp2_with fail
      go_ret
      exact ⟨rfl, b2⟩
    · rw [if_neg h2]
      have d2 := empty_no h2
      clear h2
      by_cases h3 : qb < (s.size : Int)
      · rw [if_pos h3]
        have d3 : decide (qb < (s.size : Int)) = true := decide_eq_true h3
        clear h3
        go_enter Try.func107, Try.ntmps107
        go_wp2_with fail
        go_ret
        exact ⟨rfl, b2⟩
      · rw [if_neg h3]
        have d3 : decide (qb < (s.size : Int)) = false := decide_eq_false h3
        clear h3
        by_cases h4 : qc < (v.size : Int)
        · skip
          rw [if_pos ⟨by decide, .inl h4⟩]
          have d4 : decide (qc < (v.size : Int)) = true := decide_eq_true h4
          clear h4
          go_enter Try.func107, Try.ntmps107
          go_wp2_with fail
          go_ret
          exact ⟨rfl, b2⟩
        · skip
          have d4 : decide (qc < (v.size : Int)) = false := decide_eq_false h4
          by_cases h5 : qd < (t.size : Int)
          · rw [if_pos ⟨by decide, .inr h5⟩]
            have d5 : decide (qd < (t.size : Int)) = true := decide_eq_true h5
            clear h5
            go_enter Try.func107, Try.ntmps107
            go_wp2_with fail
            go_ret
            exact ⟨rfl, b2⟩
          · rw [if_neg (fun h => h.2.elim h4 h5)]
            have d5 : decide (qd < (t.size : Int)) = false := decide_eq_false h5
            clear h4 h5
            go_enter Try.func107, Try.ntmps107
            go_wp2_with fail
            go_ret
            exact ⟨rfl, b2⟩
  · by_cases k2 : k = 2
    · subst k2
      rw [if_neg (fun h => h.2.1 rfl)]
      by_cases h3 : s.size = 0
      · rw [if_pos h3]
        have d2 := empty_yes h3
        clear h3
        go_enter Try.func107, Try.ntmps107
        go_wp2_with fail
        go_ret
        exact ⟨rfl, b2⟩
      · rw [if_neg h3]
        have d2 := empty_no h3
        clear h3
        by_cases h4 : qb < (s.size : Int)
        · rw [if_pos h4]
          have d3 : decide (qb < (s.size : Int)) = true := decide_eq_true h4
          clear h4
          go_enter Try.func107, Try.ntmps107
          go_wp2_with fail
          go_ret
          exact ⟨rfl, b2⟩
        · rw [if_neg h4]
          have d3 : decide (qb < (s.size : Int)) = false := decide_eq_false h4
          clear h4
          by_cases h5 : qc < (v.size : Int)
          · skip
            rw [if_pos ⟨by decide, .inl h5⟩]
            have d4 : decide (qc < (v.size : Int)) = true := decide_eq_true h5
            clear h5
            go_enter Try.func107, Try.ntmps107
            go_wp2_with fail
            go_ret
            exact ⟨rfl, b2⟩
          · skip
            have d4 : decide (qc < (v.size : Int)) = false := decide_eq_false h5
            by_cases h6 : qd < (t.size : Int)
            · rw [if_pos ⟨by decide, .inr h6⟩]
              have d5 : decide (qd < (t.size : Int)) = true := decide_eq_true h6
              clear h6
              go_enter Try.func107, Try.ntmps107
              go_wp2_with fail
              go_ret
              exact ⟨rfl, b2⟩
            · rw [if_neg (fun h => h.2.elim h5 h6)]
              have d5 : decide (qd < (t.size : Int)) = false := decide_eq_false h6
              clear h5 h6
              go_enter Try.func107, Try.ntmps107
              go_wp2_with fail
              go_ret
              exact ⟨rfl, b2⟩
    · by_cases k3 : k = 3
      · subst k3
        rw [if_neg (fun h => h.2.2 rfl)]
        by_cases h4 : s.size = 0
        · rw [if_pos h4]
          have d2 := empty_yes h4
          clear h4
          go_enter Try.func107, Try.ntmps107
          go_wp2_with fail
          go_ret
          exact ⟨rfl, b2⟩
        · rw [if_neg h4]
          have d2 := empty_no h4
          clear h4
          by_cases h5 : qb < (s.size : Int)
          · rw [if_pos h5]
            have d3 : decide (qb < (s.size : Int)) = true := decide_eq_true h5
            clear h5
            go_enter Try.func107, Try.ntmps107
            go_wp2_with fail
            go_ret
            exact ⟨rfl, b2⟩
          · rw [if_neg h5]
            have d3 : decide (qb < (s.size : Int)) = false := decide_eq_false h5
            clear h5
            rw [if_neg (fun h => h.1 rfl)]
            go_enter Try.func107, Try.ntmps107
            go_wp2_with fail
            go_ret
            exact ⟨rfl, b2⟩
      · rw [if_pos ⟨k1, k2, k3⟩]
        by_cases h1 : k < 1
        · have g1 : decide (k < 1) = true := decide_eq_true h1
          clear k1 k2 k3 h1
          go_enter Try.func107, Try.ntmps107
          go_wp2_with fail
          go_ret
          exact ⟨rfl, b2⟩
        · have g1 : decide (k < 1) = false := decide_eq_false h1
          have g2 : decide (3 < k) = true := decide_eq_true (by omega)
          clear k1 k2 k3 h1
          go_enter Try.func107, Try.ntmps107
          go_wp2_with fail
          go_ret
          exact ⟨rfl, b2⟩

set_option maxRecDepth 100000 in
set_option maxHeartbeats 4000000 in
theorem refNew_ok (q : Qt) (w : World) (hk : q.ok) :
    Calls Try.prog 34 #[.agg #[.int .i64 q.a, .int .i64 q.b, .int .i64 q.c, .int .i64 q.d, .int .i64 q.e, .int .i64 q.f, .int .i64 q.h]] w fun e w' => e = .returned (.tuple #[RV q (.slice none 0 0) (.slice none 0 0), .bool true]) ∧ Below w.heap.size w w' := by
  have hr := fun w' => quotas.refRight_ok q.a q.b q.c q.d q.e q.f q.h w' hk
  have kq := (Blk.new w 59 #[.int .i64 q.a, .int .i64 q.b, .int .i64 q.c, .int .i64 q.d, .int .i64 q.e, .int .i64 q.f, .int .i64 q.h]).alloc (.cells Z9 66)
  have kz := Blk.new (w.alloc (.cells #[.int .i64 q.a, .int .i64 q.b, .int .i64 q.c, .int .i64 q.d, .int .i64 q.e, .int .i64 q.f, .int .i64 q.h] 59)) 66 Z9
  have b0 : Below w.heap.size w ((w.alloc (.cells #[.int .i64 q.a, .int .i64 q.b, .int .i64 q.c, .int .i64 q.d, .int .i64 q.e, .int .i64 q.f, .int .i64 q.h] 59)).alloc (.cells Z9 66)) := ((Below.refl _ _).alloc (Nat.le_refl _) _).alloc (by simp) _
  simp only [World.size_alloc] at kz
  go_enter Try.func34, Try.ntmps34
  go_upto_region 1 with (fail)
  generalize (w.alloc (.cells #[.int .i64 q.a, .int .i64 q.b, .int .i64 q.c, .int .i64 q.d, .int .i64 q.e, .int .i64 q.f, .int .i64 q.h] 59)).alloc (.cells Z9 66) = W at *
  obtain ⟨c0, c1, c2, c3, c4, c5, c6⟩ := qcells kq
  have lq := kq.lt
  have hS0 : Below W.heap.size W W.drew := (Below.refl _ _).drew
  refine mix.region_D (fun w' => Below W.heap.size W w') (fun j => j == 4 || j == 5) (by kernel_rfl) ?_
  generalize W.drew = Wd at hS0 ⊢
  refine mix.D_takeT (i := 0) (v := ?_) rfl (by kernel_rfl) (by kernel_rfl) (fun _ _ _ h => h) (Or.inl ⟨by rfl, ?_⟩) hS0 ?_
  rotate_left
  · intro w' hSw
    have y0 := (hSw.cell (p := ⟨w.heap.size, 0, none⟩) lq).trans c0
    have y1 := (hSw.cell (p := ⟨w.heap.size, 1, none⟩) lq).trans c1
    have y2 := (hSw.cell (p := ⟨w.heap.size, 2, none⟩) lq).trans c2
    have y3 := (hSw.cell (p := ⟨w.heap.size, 3, none⟩) lq).trans c3
    have y4 := (hSw.cell (p := ⟨w.heap.size, 4, none⟩) lq).trans c4
    have y5 := (hSw.cell (p := ⟨w.heap.size, 5, none⟩) lq).trans c5
    have y6 := (hSw.cell (p := ⟨w.heap.size, 6, none⟩) lq).trans c6
    try simp only [List.getElem_toArray, List.getElem_cons_zero, List.getElem_cons_succ]
    go_simp
    exact rfl
  try simp only [Act.put, List.setIfInBounds_toArray, List.set_cons_zero, List.set_cons_succ, List.getElem_toArray, List.getElem_cons_zero, List.getElem_cons_succ]
  refine mix.D_takeT (i := 1) (v := ?_) rfl (by kernel_rfl) (by kernel_rfl) (fun _ _ _ h => h) (Or.inl ⟨by rfl, ?_⟩) hS0 ?_
  rotate_left
  · intro w' hSw
    have y0 := (hSw.cell (p := ⟨w.heap.size, 0, none⟩) lq).trans c0
    have y1 := (hSw.cell (p := ⟨w.heap.size, 1, none⟩) lq).trans c1
    have y2 := (hSw.cell (p := ⟨w.heap.size, 2, none⟩) lq).trans c2
    have y3 := (hSw.cell (p := ⟨w.heap.size, 3, none⟩) lq).trans c3
    have y4 := (hSw.cell (p := ⟨w.heap.size, 4, none⟩) lq).trans c4
    have y5 := (hSw.cell (p := ⟨w.heap.size, 5, none⟩) lq).trans c5
    have y6 := (hSw.cell (p := ⟨w.heap.size, 6, none⟩) lq).trans c6
    try simp only [List.getElem_toArray, List.getElem_cons_zero, List.getElem_cons_succ]
    go_simp
    exact rfl
  try simp only [Act.put, List.setIfInBounds_toArray, List.set_cons_zero, List.set_cons_succ, List.getElem_toArray, List.getElem_cons_zero, List.getElem_cons_succ]
  refine mix.D_takeT (i := 2) (v := ?_) rfl (by kernel_rfl) (by kernel_rfl) (fun _ _ _ h => h) (Or.inl ⟨by rfl, ?_⟩) hS0 ?_
  rotate_left
  · intro w' hSw
    have y0 := (hSw.cell (p := ⟨w.heap.size, 0, none⟩) lq).trans c0
    have y1 := (hSw.cell (p := ⟨w.heap.size, 1, none⟩) lq).trans c1
    have y2 := (hSw.cell (p := ⟨w.heap.size, 2, none⟩) lq).trans c2
    have y3 := (hSw.cell (p := ⟨w.heap.size, 3, none⟩) lq).trans c3
    have y4 := (hSw.cell (p := ⟨w.heap.size, 4, none⟩) lq).trans c4
    have y5 := (hSw.cell (p := ⟨w.heap.size, 5, none⟩) lq).trans c5
    have y6 := (hSw.cell (p := ⟨w.heap.size, 6, none⟩) lq).trans c6
    try simp only [List.getElem_toArray, List.getElem_cons_zero, List.getElem_cons_succ]
    go_simp
    exact rfl
  try simp only [Act.put, List.setIfInBounds_toArray, List.set_cons_zero, List.set_cons_succ, List.getElem_toArray, List.getElem_cons_zero, List.getElem_cons_succ]
  refine mix.D_op (k := 3) rfl rfl (by kernel_rfl) (fun K' hK => ?_)
  simp only [List.getElem_toArray, List.getElem_cons_zero, List.getElem_cons_succ]
  go_wp2_with fail
  refine (hr _).mono ?_
  rintro e wb1 ⟨rfl, hs1⟩
  have hb1 : Below W.heap.size W wb1 := hS0.trans (hs1.mono hS0.size)
  refine hK.out _ _ (fun _ => hb1) ?_
  clear hK K'
  try simp only [Act.put, List.setIfInBounds_toArray, List.set_cons_zero, List.set_cons_succ]
  refine mix.D_op (k := 4) rfl rfl (by kernel_rfl) (fun K' hK => ?_)
  simp only [List.getElem_toArray, List.getElem_cons_zero, List.getElem_cons_succ]
  obtain ⟨_, n0, n1, n2, n3, n4, n5, n6, n7, n8⟩ := cells9 (kz.below hb1 kz.lt)
  have lz := (kz.below hb1 kz.lt).lt
  have kN := nine_blk (kz.below hb1 kz.lt) q (.slice none 0 0) (.slice none 0 0)
  have bN := nine_below (b0.trans (hb1.mono b0.size)) (B := w.heap.size) (g := w.heap.size + 1) (by omega) q (.slice none 0 0) (.slice none 0 0)
  unfold nine at kN bN
  go_wp2_with fail
  refine hK.out _ _ (fun h => by simp at h) ?_
  clear hK K'
  try simp only [Act.put, List.setIfInBounds_toArray, List.set_cons_zero, List.set_cons_succ]
  generalize ((((((((World.setCell wb1 ⟨w.heap.size + 1, 0, none⟩ (.int .i64 q.a)).setCell ⟨w.heap.size + 1, 1, none⟩ (.int .i64 q.b)).setCell ⟨w.heap.size + 1, 2, none⟩ (.int .i64 q.c)).setCell ⟨w.heap.size + 1, 3, none⟩ (.int .i64 q.d)).setCell ⟨w.heap.size + 1, 4, none⟩ (.int .i64 q.e)).setCell ⟨w.heap.size + 1, 5, none⟩ (.int .i64 q.f)).setCell ⟨w.heap.size + 1, 6, none⟩ (.int .i64 q.h)).setCell ⟨w.heap.size + 1, 7, none⟩ (.slice none 0 0)).setCell ⟨w.heap.size + 1, 8, none⟩ (.slice none 0 0) = W9 at kN bN ⊢
  refine mix.D_op (k := 5) rfl rfl (by kernel_rfl) (fun K' hK => ?_)
  simp only [List.getElem_toArray, List.getElem_cons_zero, List.getElem_cons_succ]
  go_wp2_with fail
  refine hK.out _ _ (fun h => by simp at h) ?_
  clear hK K'
  refine mix.D_done (by kernel_rfl) ?_ _
  obtain ⟨⟨v0, v1, v2, v3, v4, v5, v6, v7, v8⟩, _⟩ := cells9 kN
  go_wp2_with fail
  refine bodyPost_ret (v := .tuple #[RV q (.slice none 0 0) (.slice none 0 0), .bool true]) (by simp [results, Try.results34, go_sem, v0, v1, v2, v3, v4, v5, v6, v7, v8]) rfl ⟨rfl, bN⟩

set_option maxRecDepth 100000 in
set_option maxHeartbeats 4000000 in
theorem refNew_no (q : Qt) (w : World) (hk : ¬ q.ok) :
    Calls Try.prog 34 #[.agg #[.int .i64 q.a, .int .i64 q.b, .int .i64 q.c, .int .i64 q.d, .int .i64 q.e, .int .i64 q.f, .int .i64 q.h]] w fun e w' => e = .returned (.tuple #[RV q (.slice none 0 0) (.slice none 0 0), .bool false]) ∧ Below w.heap.size w w' := by
  have hr := fun w' => quotas.refRight_no q.a q.b q.c q.d q.e q.f q.h w' hk
  have kq := (Blk.new w 59 #[.int .i64 q.a, .int .i64 q.b, .int .i64 q.c, .int .i64 q.d, .int .i64 q.e, .int .i64 q.f, .int .i64 q.h]).alloc (.cells Z9 66)
  have kz := Blk.new (w.alloc (.cells #[.int .i64 q.a, .int .i64 q.b, .int .i64 q.c, .int .i64 q.d, .int .i64 q.e, .int .i64 q.f, .int .i64 q.h] 59)) 66 Z9
  have b0 : Below w.heap.size w ((w.alloc (.cells #[.int .i64 q.a, .int .i64 q.b, .int .i64 q.c, .int .i64 q.d, .int .i64 q.e, .int .i64 q.f, .int .i64 q.h] 59)).alloc (.cells Z9 66)) := ((Below.refl _ _).alloc (Nat.le_refl _) _).alloc (by simp) _
  simp only [World.size_alloc] at kz
  go_enter Try.func34, Try.ntmps34
  go_upto_region 1 with (fail)
  generalize (w.alloc (.cells #[.int .i64 q.a, .int .i64 q.b, .int .i64 q.c, .int .i64 q.d, .int .i64 q.e, .int .i64 q.f, .int .i64 q.h] 59)).alloc (.cells Z9 66) = W at *
  obtain ⟨c0, c1, c2, c3, c4, c5, c6⟩ := qcells kq
  have lq := kq.lt
  have hS0 : Below W.heap.size W W.drew := (Below.refl _ _).drew
  refine mix.region_D (fun w' => Below W.heap.size W w') (fun j => j == 4 || j == 5) (by kernel_rfl) ?_
  generalize W.drew = Wd at hS0 ⊢
  refine mix.D_takeT (i := 0) (v := ?_) rfl (by kernel_rfl) (by kernel_rfl) (fun _ _ _ h => h) (Or.inl ⟨by rfl, ?_⟩) hS0 ?_
  rotate_left
  · intro w' hSw
    have y0 := (hSw.cell (p := ⟨w.heap.size, 0, none⟩) lq).trans c0
    have y1 := (hSw.cell (p := ⟨w.heap.size, 1, none⟩) lq).trans c1
    have y2 := (hSw.cell (p := ⟨w.heap.size, 2, none⟩) lq).trans c2
    have y3 := (hSw.cell (p := ⟨w.heap.size, 3, none⟩) lq).trans c3
    have y4 := (hSw.cell (p := ⟨w.heap.size, 4, none⟩) lq).trans c4
    have y5 := (hSw.cell (p := ⟨w.heap.size, 5, none⟩) lq).trans c5
    have y6 := (hSw.cell (p := ⟨w.heap.size, 6, none⟩) lq).trans c6
    try simp only [List.getElem_toArray, List.getElem_cons_zero, List.getElem_cons_succ]
    go_simp
    exact rfl
  try simp only [Act.put, List.setIfInBounds_toArray, List.set_cons_zero, List.set_cons_succ, List.getElem_toArray, List.getElem_cons_zero, List.getElem_cons_succ]
  refine mix.D_takeT (i := 1) (v := ?_) rfl (by kernel_rfl) (by kernel_rfl) (fun _ _ _ h => h) (Or.inl ⟨by rfl, ?_⟩) hS0 ?_
  rotate_left
  · intro w' hSw
    have y0 := (hSw.cell (p := ⟨w.heap.size, 0, none⟩) lq).trans c0
    have y1 := (hSw.cell (p := ⟨w.heap.size, 1, none⟩) lq).trans c1
    have y2 := (hSw.cell (p := ⟨w.heap.size, 2, none⟩) lq).trans c2
    have y3 := (hSw.cell (p := ⟨w.heap.size, 3, none⟩) lq).trans c3
    have y4 := (hSw.cell (p := ⟨w.heap.size, 4, none⟩) lq).trans c4
    have y5 := (hSw.cell (p := ⟨w.heap.size, 5, none⟩) lq).trans c5
    have y6 := (hSw.cell (p := ⟨w.heap.size, 6, none⟩) lq).trans c6
    try simp only [List.getElem_toArray, List.getElem_cons_zero, List.getElem_cons_succ]
    go_simp
    exact rfl
  try simp only [Act.put, List.setIfInBounds_toArray, List.set_cons_zero, List.set_cons_succ, List.getElem_toArray, List.getElem_cons_zero, List.getElem_cons_succ]
  refine mix.D_takeT (i := 2) (v := ?_) rfl (by kernel_rfl) (by kernel_rfl) (fun _ _ _ h => h) (Or.inl ⟨by rfl, ?_⟩) hS0 ?_
  rotate_left
  · intro w' hSw
    have y0 := (hSw.cell (p := ⟨w.heap.size, 0, none⟩) lq).trans c0
    have y1 := (hSw.cell (p := ⟨w.heap.size, 1, none⟩) lq).trans c1
    have y2 := (hSw.cell (p := ⟨w.heap.size, 2, none⟩) lq).trans c2
    have y3 := (hSw.cell (p := ⟨w.heap.size, 3, none⟩) lq).trans c3
    have y4 := (hSw.cell (p := ⟨w.heap.size, 4, none⟩) lq).trans c4
    have y5 := (hSw.cell (p := ⟨w.heap.size, 5, none⟩) lq).trans c5
    have y6 := (hSw.cell (p := ⟨w.heap.size, 6, none⟩) lq).trans c6
    try simp only [List.getElem_toArray, List.getElem_cons_zero, List.getElem_cons_succ]
    go_simp
    exact rfl
  try simp only [Act.put, List.setIfInBounds_toArray, List.set_cons_zero, List.set_cons_succ, List.getElem_toArray, List.getElem_cons_zero, List.getElem_cons_succ]
  refine mix.D_op (k := 3) rfl rfl (by kernel_rfl) (fun K' hK => ?_)
  simp only [List.getElem_toArray, List.getElem_cons_zero, List.getElem_cons_succ]
  go_wp2_with fail
  refine (hr _).mono ?_
  rintro e wb1 ⟨rfl, hs1⟩
  have hb1 : Below W.heap.size W wb1 := hS0.trans (hs1.mono hS0.size)
  refine hK.out _ _ (fun _ => hb1) ?_
  clear hK K'
  try simp only [Act.put, List.setIfInBounds_toArray, List.set_cons_zero, List.set_cons_succ]
  refine mix.D_op (k := 4) rfl rfl (by kernel_rfl) (fun K' hK => ?_)
  simp only [List.getElem_toArray, List.getElem_cons_zero, List.getElem_cons_succ]
  obtain ⟨_, n0, n1, n2, n3, n4, n5, n6, n7, n8⟩ := cells9 (kz.below hb1 kz.lt)
  have lz := (kz.below hb1 kz.lt).lt
  have kN := nine_blk (kz.below hb1 kz.lt) q (.slice none 0 0) (.slice none 0 0)
  have bN := nine_below (b0.trans (hb1.mono b0.size)) (B := w.heap.size) (g := w.heap.size + 1) (by omega) q (.slice none 0 0) (.slice none 0 0)
  unfold nine at kN bN
  go_wp2_with fail
  refine hK.out _ _ (fun h => by simp at h) ?_
  clear hK K'
  try simp only [Act.put, List.setIfInBounds_toArray, List.set_cons_zero, List.set_cons_succ]
  generalize ((((((((World.setCell wb1 ⟨w.heap.size + 1, 0, none⟩ (.int .i64 q.a)).setCell ⟨w.heap.size + 1, 1, none⟩ (.int .i64 q.b)).setCell ⟨w.heap.size + 1, 2, none⟩ (.int .i64 q.c)).setCell ⟨w.heap.size + 1, 3, none⟩ (.int .i64 q.d)).setCell ⟨w.heap.size + 1, 4, none⟩ (.int .i64 q.e)).setCell ⟨w.heap.size + 1, 5, none⟩ (.int .i64 q.f)).setCell ⟨w.heap.size + 1, 6, none⟩ (.int .i64 q.h)).setCell ⟨w.heap.size + 1, 7, none⟩ (.slice none 0 0)).setCell ⟨w.heap.size + 1, 8, none⟩ (.slice none 0 0) = W9 at kN bN ⊢
  refine mix.D_op (k := 5) rfl rfl (by kernel_rfl) (fun K' hK => ?_)
  simp only [List.getElem_toArray, List.getElem_cons_zero, List.getElem_cons_succ]
  go_wp2_with fail
  refine hK.out _ _ (fun h => by simp at h) ?_
  clear hK K'
  refine mix.D_done (by kernel_rfl) ?_ _
  obtain ⟨⟨v0, v1, v2, v3, v4, v5, v6, v7, v8⟩, _⟩ := cells9 kN
  go_wp2_with fail
  refine bodyPost_ret (v := .tuple #[RV q (.slice none 0 0) (.slice none 0 0), .bool false]) (by simp [results, Try.results34, go_sem, v0, v1, v2, v3, v4, v5, v6, v7, v8]) rfl ⟨rfl, bN⟩

theorem lk_next {es : List E} {s : ByteArray} {j : Nat} (hj : j < es.length) (hn : es[j].s ≠ s) : lk ((es.drop j).map pe) s = lk ((es.drop (j + 1)).map pe) s := by
  rw [List.drop_eq_getElem_cons hj, List.map_cons, lk, if_neg (show ¬ (pe es[j]).1 = s from hn)]
theorem lk_here {es : List E} {s : ByteArray} {j : Nat} (hj : j < es.length) (hn : es[j].s = s) : lk ((es.drop j).map pe) s = some es[j].l := by
  rw [List.drop_eq_getElem_cons hj, List.map_cons, lk, if_pos (show (pe es[j]).1 = s from hn)]; rfl
theorem delE_yes {es : List E} {s : ByteArray} {j : Nat} (hj : j < es.length) (h : es[j].s = s) : delE (es.take (j + 1)) s = delE (es.take j) s := by
  unfold delE
  rw [List.take_succ_eq_append_getElem hj, List.filter_append]
  simp [h]
theorem delE_no {es : List E} {s : ByteArray} {j : Nat} (hj : j < es.length) (h : ¬ es[j].s = s) : delE (es.take (j + 1)) s = delE (es.take j) s ++ [es[j]] := by
  unfold delE
  rw [List.take_succ_eq_append_getElem hj, List.filter_append]
  simp [h]
theorem delE_le (es : List E) (s : ByteArray) : (delE es s).length ≤ es.length := List.length_filter_le _ _

set_option maxRecDepth 100000 in
set_option maxHeartbeats 4000000 in
theorem refGet_any (es : List E) (A : Option Addr) (c : Nat) (s : ByteArray) (w : World) (hE : Es w w.heap.size es A c) :
    Calls Try.prog 39 #[.slice A es.length c, .string s] w (GetPost w (getP (es.map pe) s)) := by
  have hl : es.length ≤ 140737488355328 := by have := hE.2.1; omega
  have kz := Blk.new w 79 #[.string ⟨#[]⟩, .slice none 0 0]
  have b0 : Below w.heap.size w (w.alloc (.cells #[.string ⟨#[]⟩, .slice none 0 0] 79)) := (Below.refl _ _).alloc (Nat.le_refl _) _
  go_enter Try.func39, Try.ntmps39
  go_wp2_with fail
  generalize w.alloc (.cells #[.string ⟨#[]⟩, .slice none 0 0] 79) = W at *
  go_loopw [10] (fun i wr => ∃ j : Nat, j ≤ es.length ∧ i = .int .i64 (j : Int) ∧ Below W.heap.size W wr ∧ Hid (lk (es.map pe) s = lk ((es.drop j).map pe) s)) (fun i _ => es.length - (intOf i).toNat)
  case atStart => exact ⟨0, Nat.zero_le _, rfl, Below.refl _ _, vers.lay rfl⟩
  case round =>
    obtain ⟨j, hj, rfl, hb, HL⟩ := hrel
    have bw := b0.trans (hb.mono b0.size)
    have kr := kz.below hb kz.lt
    by_cases hlt : j < es.length
    · obtain ⟨bk, off, rfl, hbk, x0, x1, hV⟩ := (hE.below bw).at_ hlt
      have hcp := fun wx (hx : Below w.heap.size w wx) => copy_any es[j].s es[j].l es[j].A es[j].c wx ((hE.at_world hx).2.2.2.2 _ (List.getElem_mem hlt)).1
      have bZ := hb.alloc hb.size (.cells #[.string es[j].s, .slice es[j].A es[j].l.length es[j].c] 79)
      have kZ := Blk.new wr 79 #[.string es[j].s, .slice es[j].A es[j].l.length es[j].c]
      have krZ := kr.alloc (.cells #[.string es[j].s, .slice es[j].A es[j].l.length es[j].c] 79)
      by_cases hs : es[j].s = s
      · have g1 := bytes_eq hs
        have HG := vers.lay (show getP (es.map pe) s = (es[j].s, es[j].l, true) by unfold getP; rw [HL.out, lk_here hlt hs, hs])
        clear HL hs
        generalize es[j] = x at *
        obtain ⟨xs, xl, xA, xc⟩ := x
        simp only [] at *
        have bWZ := bw.alloc bw.size (.cells #[.string xs, .slice xA xl.length xc] 79)
        go_wp2_with fail
        refine (hcp _ bWZ).mono ?_
        rintro e w2 ⟨u, rfl, hO, hb2⟩
        obtain ⟨A2, n2, c2, rfl, hn2⟩ := hO.shape
        have k2 := krZ.below hb2 krZ.lt
        have z0 := k2.cell 0
        have z1 := k2.cell 1
        simp only [List.getElem?_toArray, List.getElem?_cons_zero, List.getElem?_cons_succ] at z0 z1
        have f0 := k2.frozen 0
        have f1 := k2.frozen 1
        have l2 := k2.lt
        have hs2 := hb2.size
        simp only [World.size_alloc] at hs2
        have b2 := bWZ.trans (hb2.mono bWZ.size)
        have hbs := bw.size
        go_wp2_with fail
        obtain rfl := hn2.out
        rw [HG.out]
        refine bodyPost_ret (v := .tuple #[.agg #[.string xs, .slice A2 xl.length c2], .bool true]) (by simp [results, Try.results39, go_sem, z0, z1]) rfl ⟨(b2.setCell (p := ⟨w.heap.size, 0, none⟩) (Nat.le_refl _) _).setCell (p := ⟨w.heap.size, 1, none⟩) (Nat.le_refl _) _, A2, c2, rfl, ?_⟩
        refine (show OwnVF w2 (fun g => w.heap.size + 1 ≤ g ∧ g < w2.heap.size) ⟨xs, xl, A2, c2⟩ from ⟨ownsRow_base hO.1 (fun _ _ => Nat.zero_le _), hO.2.1, hO.2.2, fun g hg => ?_⟩).agree (fun g hg => ?_) |>.mono fun g hg => ⟨by omega, by simpa using hg.2⟩
        · have := hO.own g hg
          simp only [World.size_alloc] at this
          have := kz.lt
          have := hb.size
          omega
        · rw [Below.heap_setCell _ _ _ _ (by simp; omega), Below.heap_setCell _ _ _ _ (by simp; omega)]
      · have g1 := bytes_ne hs
        have HN := vers.lay (show lk (es.map pe) s = lk ((es.drop (j + 1)).map pe) s by rw [HL.out, lk_next hlt hs])
        clear HL hs hcp
        generalize es[j] = x at *
        obtain ⟨xs, xl, xA, xc⟩ := x
        simp only [] at *
        go_wp2_with fail
        exact ⟨⟨j + 1, hlt, by go_num, bZ, HN⟩, by simp [intOf]; omega⟩
    · obtain rfl : j = es.length := by omega
      have HG := vers.lay (show getP (es.map pe) s = (⟨#[]⟩, [], false) by unfold getP; rw [HL.out, List.drop_length]; rfl)
      clear HL
      have z0 := kr.cell 0
      have z1 := kr.cell 1
      simp only [List.getElem?_toArray, List.getElem?_cons_zero, List.getElem?_cons_succ] at z0 z1
      have f0 := kr.frozen 0
      have f1 := kr.frozen 1
      have l2 := kr.lt
      go_wp2_with fail
      rw [HG.out]
      refine bodyPost_ret (v := .tuple #[.agg #[.string ⟨#[]⟩, .slice none 0 0], .bool false]) (by simp [results, Try.results39, go_sem, z0, z1]) rfl ⟨(bw.setCell (p := ⟨w.heap.size, 0, none⟩) (Nat.le_refl _) _).setCell (p := ⟨w.heap.size, 1, none⟩) (Nat.le_refl _) _, none, 0, rfl, ?_⟩
      exact ⟨⟨rfl, .inl ⟨rfl, rfl⟩⟩, by simp, (fun y hy => by cases hy), fun g hg => by cases hg⟩

end Go.Proofs.Ytjlglfjikfpboaa.books
