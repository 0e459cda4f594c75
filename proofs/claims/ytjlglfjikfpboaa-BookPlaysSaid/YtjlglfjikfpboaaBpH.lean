/- same: has a book just these secrets, and those of before? -/
import Derived.Test.YtjlglfjikfpboaaBpG
import Derived.Test.YtjlglfjikfpboaaMixCE


namespace Go.Proofs.Ytjlglfjikfpboaa.books
set_option linter.unusedVariables false
set_option linter.unusedSimpArgs false
open Go.RowKit Go.Shelf Go.Proofs.Ytjlglfjikfpboaa.base Go.Proofs.Ytjlglfjikfpboaa.quotas Go.Proofs.Ytjlglfjikfpboaa.vers Go.Proofs.Ytjlglfjikfpboaa.nodes Go.Proofs.Ytjlglfjikfpboaa.trees Go.Proofs.Ytjlglfjikfpboaa.texts

set_option maxRecDepth 100000 in
set_option maxHeartbeats 4000000 in
theorem same_ok (W0 : World) (q : Qt) (bp mp n : Nat) (b : Bk) (F : Nat → Prop) (es : List E) (A : Option Addr) (c : Nat) (v : Value) (w : World) (hM : MdHead W0 q bp mp b w) (hR : RAt w F es A c v b.L b.P) (hk : q.ok) (hI : BInv q n b) (hn : n ≤ 1000) :
    Calls Try.prog 43 #[.pointer (some ⟨bp, 0, none⟩), RV q (.slice A es.length c) v] w fun e w' => e = .returned (.bool true) ∧ Below w.heap.size w w' := by
  have hPl : b.P.length ≤ 1000000 := by have := hI.plen; omega
  have hall : (allP b.L).length ≤ 3000000 := by
    have := allP_le b.L fun x hx => vts_le (hI.inv.fine x hx)
    have := hI.inv.le hk
    omega
  obtain ⟨vA, vn, vc, rfl⟩ := hR.txt.shape
  have kb := Blk.new w 66 (RC q (.slice A es.length c) (.slice vA vn vc))
  have b0 : Below w.heap.size w (w.alloc (.cells (RC q (.slice A es.length c) (.slice vA vn vc)) 66)) := (Below.refl _ _).alloc (Nat.le_refl _) _
  have hRW := hR.now b0
  replace hM := hM.below b0
  go_enter Try.func43, Try.ntmps43
  go_upto_region 1 with (fail)
  generalize w.alloc (.cells (RC q (.slice A es.length c) (.slice vA vn vc)) 66) = W at *
  obtain ⟨⟨x0, x1, x2, x3, x4, x5, x6, x7, x8⟩, _⟩ := cells9 kb
  have lb := kb.lt
  have hS0 : Below W.heap.size W W.drew := (Below.refl _ _).drew
  refine mix.region_D (fun w' => Below W.heap.size W w') (fun _ => false) (by kernel_rfl) ?_
  generalize W.drew = Wd at hS0 ⊢
  refine mix.D_take (i := 0) (v := ?_) rfl (by kernel_rfl) (by kernel_rfl) (fun _ _ _ h => h) (Or.inl ⟨by first | rfl | simp [Region.wanted, yielded], ?_⟩) hS0 ?_
  rotate_left
  · intro w' hSw
    have y0 := (hSw.cell (p := ⟨w.heap.size, 0, none⟩) lb).trans x0
    have y1 := (hSw.cell (p := ⟨w.heap.size, 1, none⟩) lb).trans x1
    have y2 := (hSw.cell (p := ⟨w.heap.size, 2, none⟩) lb).trans x2
    have y3 := (hSw.cell (p := ⟨w.heap.size, 3, none⟩) lb).trans x3
    have y4 := (hSw.cell (p := ⟨w.heap.size, 4, none⟩) lb).trans x4
    have y5 := (hSw.cell (p := ⟨w.heap.size, 5, none⟩) lb).trans x5
    have y6 := (hSw.cell (p := ⟨w.heap.size, 6, none⟩) lb).trans x6
    have y7 := (hSw.cell (p := ⟨w.heap.size, 7, none⟩) lb).trans x7
    have y8 := (hSw.cell (p := ⟨w.heap.size, 8, none⟩) lb).trans x8
    try simp only [List.getElem_toArray, List.getElem_cons_zero, List.getElem_cons_succ]
    go_simp
    exact rfl
  try simp only [Act.put, List.setIfInBounds_toArray, List.set_cons_zero, List.set_cons_succ, List.getElem_toArray, List.getElem_cons_zero, List.getElem_cons_succ]
  refine mix.D_take (i := 2) (v := ?_) rfl (by kernel_rfl) (by kernel_rfl) (fun _ _ _ h => h) (Or.inl ⟨by first | rfl | simp [Region.wanted, yielded], ?_⟩) hS0 ?_
  rotate_left
  · intro w' hSw
    have y0 := (hSw.cell (p := ⟨w.heap.size, 0, none⟩) lb).trans x0
    have y1 := (hSw.cell (p := ⟨w.heap.size, 1, none⟩) lb).trans x1
    have y2 := (hSw.cell (p := ⟨w.heap.size, 2, none⟩) lb).trans x2
    have y3 := (hSw.cell (p := ⟨w.heap.size, 3, none⟩) lb).trans x3
    have y4 := (hSw.cell (p := ⟨w.heap.size, 4, none⟩) lb).trans x4
    have y5 := (hSw.cell (p := ⟨w.heap.size, 5, none⟩) lb).trans x5
    have y6 := (hSw.cell (p := ⟨w.heap.size, 6, none⟩) lb).trans x6
    have y7 := (hSw.cell (p := ⟨w.heap.size, 7, none⟩) lb).trans x7
    have y8 := (hSw.cell (p := ⟨w.heap.size, 8, none⟩) lb).trans x8
    try simp only [List.getElem_toArray, List.getElem_cons_zero, List.getElem_cons_succ]
    go_simp
    exact rfl
  try simp only [Act.put, List.setIfInBounds_toArray, List.set_cons_zero, List.set_cons_succ, List.getElem_toArray, List.getElem_cons_zero, List.getElem_cons_succ]
  refine mix.D_take (i := 3) (v := ?_) rfl (by kernel_rfl) (by kernel_rfl) (fun _ _ _ h => h) (Or.inl ⟨by first | rfl | simp [Region.wanted, yielded], ?_⟩) hS0 ?_
  rotate_left
  · intro w' hSw
    have y0 := (hSw.cell (p := ⟨w.heap.size, 0, none⟩) lb).trans x0
    have y1 := (hSw.cell (p := ⟨w.heap.size, 1, none⟩) lb).trans x1
    have y2 := (hSw.cell (p := ⟨w.heap.size, 2, none⟩) lb).trans x2
    have y3 := (hSw.cell (p := ⟨w.heap.size, 3, none⟩) lb).trans x3
    have y4 := (hSw.cell (p := ⟨w.heap.size, 4, none⟩) lb).trans x4
    have y5 := (hSw.cell (p := ⟨w.heap.size, 5, none⟩) lb).trans x5
    have y6 := (hSw.cell (p := ⟨w.heap.size, 6, none⟩) lb).trans x6
    have y7 := (hSw.cell (p := ⟨w.heap.size, 7, none⟩) lb).trans x7
    have y8 := (hSw.cell (p := ⟨w.heap.size, 8, none⟩) lb).trans x8
    try simp only [List.getElem_toArray, List.getElem_cons_zero, List.getElem_cons_succ]
    go_simp
    exact rfl
  try simp only [Act.put, List.setIfInBounds_toArray, List.set_cons_zero, List.set_cons_succ, List.getElem_toArray, List.getElem_cons_zero, List.getElem_cons_succ]
  refine mix.D_one (k := 1) rfl (by kernel_rfl) (fun K' hK => ?_)
  rw [if_pos (by first | rfl | simp [Region.wanted, yielded])]
  simp only [List.getElem_toArray, List.getElem_cons_zero, List.getElem_cons_succ]
  go_wp2_with fail
  refine (MdHead.all (hM.below hS0) hk hI).mono ?_
  rintro e x1w ⟨hc1, v1, le1, rfl, hle1, hO1⟩
  obtain ⟨A1, c1, rfl, E1⟩ := hO1.es
  have hd1 : Below W.heap.size W x1w := hS0.trans (hc1.mono hS0.size)
  refine hK.out _ _ (fun _ => hd1) ?_
  clear hK K'
  try simp only [Act.put, List.setIfInBounds_toArray, List.set_cons_zero, List.set_cons_succ]
  refine mix.D_one (k := 4) rfl (by kernel_rfl) (fun K' hK => ?_)
  rw [if_pos (by first | rfl | simp [Region.wanted, yielded])]
  simp only [List.getElem_toArray, List.getElem_cons_zero, List.getElem_cons_succ]
  go_wp2_with fail
  refine (likeAll_any le1 es A1 A c1 c _ E1.es (hRW.now hd1).es_.es).mono ?_
  rintro e x2w ⟨rfl, hc2⟩
  rw [decide_eq_true (show le1.map pe = es.map pe by rw [hle1, hRW.pe_])]
  have hd2 : Below W.heap.size W x2w := hd1.trans (hc2.mono hd1.size)
  refine hK.out _ _ (fun _ => hd2) ?_
  clear hK K'
  try simp only [Act.put, List.setIfInBounds_toArray, List.set_cons_zero, List.set_cons_succ]
  refine mix.D_take (i := 5) (v := ?_) rfl (by kernel_rfl) (by kernel_rfl) (fun _ _ _ h => h) (Or.inl ⟨by first | rfl | simp [Region.wanted, yielded], ?_⟩) hd2 ?_
  rotate_left
  · intro w' hSw
    have y0 := (hSw.cell (p := ⟨w.heap.size, 0, none⟩) lb).trans x0
    have y1 := (hSw.cell (p := ⟨w.heap.size, 1, none⟩) lb).trans x1
    have y2 := (hSw.cell (p := ⟨w.heap.size, 2, none⟩) lb).trans x2
    have y3 := (hSw.cell (p := ⟨w.heap.size, 3, none⟩) lb).trans x3
    have y4 := (hSw.cell (p := ⟨w.heap.size, 4, none⟩) lb).trans x4
    have y5 := (hSw.cell (p := ⟨w.heap.size, 5, none⟩) lb).trans x5
    have y6 := (hSw.cell (p := ⟨w.heap.size, 6, none⟩) lb).trans x6
    have y7 := (hSw.cell (p := ⟨w.heap.size, 7, none⟩) lb).trans x7
    have y8 := (hSw.cell (p := ⟨w.heap.size, 8, none⟩) lb).trans x8
    try simp only [List.getElem_toArray, List.getElem_cons_zero, List.getElem_cons_succ]
    go_simp
    exact rfl
  try simp only [Act.put, List.setIfInBounds_toArray, List.set_cons_zero, List.set_cons_succ, List.getElem_toArray, List.getElem_cons_zero, List.getElem_cons_succ]
  refine mix.D_take (i := 6) (v := ?_) rfl (by kernel_rfl) (by kernel_rfl) (fun _ _ _ h => h) (Or.inl ⟨by first | rfl | simp [Region.wanted, yielded], ?_⟩) hd2 ?_
  rotate_left
  · intro w' hSw
    have y0 := (hSw.cell (p := ⟨w.heap.size, 0, none⟩) lb).trans x0
    have y1 := (hSw.cell (p := ⟨w.heap.size, 1, none⟩) lb).trans x1
    have y2 := (hSw.cell (p := ⟨w.heap.size, 2, none⟩) lb).trans x2
    have y3 := (hSw.cell (p := ⟨w.heap.size, 3, none⟩) lb).trans x3
    have y4 := (hSw.cell (p := ⟨w.heap.size, 4, none⟩) lb).trans x4
    have y5 := (hSw.cell (p := ⟨w.heap.size, 5, none⟩) lb).trans x5
    have y6 := (hSw.cell (p := ⟨w.heap.size, 6, none⟩) lb).trans x6
    have y7 := (hSw.cell (p := ⟨w.heap.size, 7, none⟩) lb).trans x7
    have y8 := (hSw.cell (p := ⟨w.heap.size, 8, none⟩) lb).trans x8
    try simp only [List.getElem_toArray, List.getElem_cons_zero, List.getElem_cons_succ]
    go_simp
    exact rfl
  try simp only [Act.put, List.setIfInBounds_toArray, List.set_cons_zero, List.set_cons_succ, List.getElem_toArray, List.getElem_cons_zero, List.getElem_cons_succ]
  refine mix.D_take (i := 8) (v := ?_) rfl (by kernel_rfl) (by kernel_rfl) (fun _ _ _ h => h) (Or.inl ⟨by first | rfl | simp [Region.wanted, yielded], ?_⟩) hd2 ?_
  rotate_left
  · intro w' hSw
    have y0 := (hSw.cell (p := ⟨w.heap.size, 0, none⟩) lb).trans x0
    have y1 := (hSw.cell (p := ⟨w.heap.size, 1, none⟩) lb).trans x1
    have y2 := (hSw.cell (p := ⟨w.heap.size, 2, none⟩) lb).trans x2
    have y3 := (hSw.cell (p := ⟨w.heap.size, 3, none⟩) lb).trans x3
    have y4 := (hSw.cell (p := ⟨w.heap.size, 4, none⟩) lb).trans x4
    have y5 := (hSw.cell (p := ⟨w.heap.size, 5, none⟩) lb).trans x5
    have y6 := (hSw.cell (p := ⟨w.heap.size, 6, none⟩) lb).trans x6
    have y7 := (hSw.cell (p := ⟨w.heap.size, 7, none⟩) lb).trans x7
    have y8 := (hSw.cell (p := ⟨w.heap.size, 8, none⟩) lb).trans x8
    try simp only [List.getElem_toArray, List.getElem_cons_zero, List.getElem_cons_succ]
    go_simp
    exact rfl
  try simp only [Act.put, List.setIfInBounds_toArray, List.set_cons_zero, List.set_cons_succ, List.getElem_toArray, List.getElem_cons_zero, List.getElem_cons_succ]
  refine mix.D_one (k := 7) rfl (by kernel_rfl) (fun K' hK => ?_)
  rw [if_pos (by first | rfl | simp [Region.wanted, yielded])]
  simp only [List.getElem_toArray, List.getElem_cons_zero, List.getElem_cons_succ]
  go_wp2_with fail
  refine (MdHead.gone (hM.below hd2) hk hI hn).mono ?_
  rintro e x3w ⟨v3, rfl, hc3, hT3⟩
  obtain ⟨A3, m3, c3, rfl⟩ := (TxF.of hT3).shape
  have hd3 : Below W.heap.size W x3w := hd2.trans (hc3.mono hd2.size)
  refine hK.out _ _ (fun _ => hd3) ?_
  clear hK K'
  try simp only [Act.put, List.setIfInBounds_toArray, List.set_cons_zero, List.set_cons_succ]
  refine mix.D_one (k := 9) rfl (by kernel_rfl) (fun K' hK => ?_)
  rw [if_pos (by first | rfl | simp [Region.wanted, yielded])]
  simp only [List.getElem_toArray, List.getElem_cons_zero, List.getElem_cons_succ]
  go_wp2_with fail
  refine (refGone_any q F es A c _ b _ (hRW.now hd3) hall hPl).mono ?_
  rintro e x4w ⟨v4, rfl, hc4, hT4⟩
  obtain ⟨A4, m4, c4, rfl⟩ := (TxF.of hT4).shape
  have hd4 : Below W.heap.size W x4w := hd3.trans (hc4.mono hd3.size)
  refine hK.out _ _ (fun _ => hd4) ?_
  clear hK K'
  try simp only [Act.put, List.setIfInBounds_toArray, List.set_cons_zero, List.set_cons_succ]
  refine mix.D_one (k := 10) rfl (by kernel_rfl) (fun K' hK => ?_)
  rw [if_pos (by first | rfl | simp [Region.wanted, yielded])]
  simp only [List.getElem_toArray, List.getElem_cons_zero, List.getElem_cons_succ]
  go_wp2_with fail
  refine (sameTexts_any _ _ _ _ _ _ (hT3.below hc4) hT4).mono ?_
  rintro e x5w ⟨rfl, hc5⟩
  have hd5 : Below W.heap.size W x5w := hd4.trans (hc5.mono hd4.size)
  refine hK.out _ _ (fun _ => hd5) ?_
  clear hK K'
  try simp only [Act.put, List.setIfInBounds_toArray, List.set_cons_zero, List.set_cons_succ]
  refine mix.D_take (i := 11) (v := ?_) rfl (by kernel_rfl) (by kernel_rfl) (fun _ _ _ h => h) (Or.inl ⟨by first | rfl | simp [Region.wanted, yielded], ?_⟩) hd5 ?_
  rotate_left
  · intro w' hSw
    have y0 := (hSw.cell (p := ⟨w.heap.size, 0, none⟩) lb).trans x0
    have y1 := (hSw.cell (p := ⟨w.heap.size, 1, none⟩) lb).trans x1
    have y2 := (hSw.cell (p := ⟨w.heap.size, 2, none⟩) lb).trans x2
    have y3 := (hSw.cell (p := ⟨w.heap.size, 3, none⟩) lb).trans x3
    have y4 := (hSw.cell (p := ⟨w.heap.size, 4, none⟩) lb).trans x4
    have y5 := (hSw.cell (p := ⟨w.heap.size, 5, none⟩) lb).trans x5
    have y6 := (hSw.cell (p := ⟨w.heap.size, 6, none⟩) lb).trans x6
    have y7 := (hSw.cell (p := ⟨w.heap.size, 7, none⟩) lb).trans x7
    have y8 := (hSw.cell (p := ⟨w.heap.size, 8, none⟩) lb).trans x8
    try simp only [List.getElem_toArray, List.getElem_cons_zero, List.getElem_cons_succ]
    go_simp
    exact rfl
  try simp only [Act.put, List.setIfInBounds_toArray, List.set_cons_zero, List.set_cons_succ, List.getElem_toArray, List.getElem_cons_zero, List.getElem_cons_succ]
  refine mix.D_take (i := 12) (v := ?_) rfl (by kernel_rfl) (by kernel_rfl) (fun _ _ _ h => h) (Or.inl ⟨by first | rfl | simp [Region.wanted, yielded], ?_⟩) hd5 ?_
  rotate_left
  · intro w' hSw
    have y0 := (hSw.cell (p := ⟨w.heap.size, 0, none⟩) lb).trans x0
    have y1 := (hSw.cell (p := ⟨w.heap.size, 1, none⟩) lb).trans x1
    have y2 := (hSw.cell (p := ⟨w.heap.size, 2, none⟩) lb).trans x2
    have y3 := (hSw.cell (p := ⟨w.heap.size, 3, none⟩) lb).trans x3
    have y4 := (hSw.cell (p := ⟨w.heap.size, 4, none⟩) lb).trans x4
    have y5 := (hSw.cell (p := ⟨w.heap.size, 5, none⟩) lb).trans x5
    have y6 := (hSw.cell (p := ⟨w.heap.size, 6, none⟩) lb).trans x6
    have y7 := (hSw.cell (p := ⟨w.heap.size, 7, none⟩) lb).trans x7
    have y8 := (hSw.cell (p := ⟨w.heap.size, 8, none⟩) lb).trans x8
    try simp only [List.getElem_toArray, List.getElem_cons_zero, List.getElem_cons_succ]
    go_simp
    exact rfl
  try simp only [Act.put, List.setIfInBounds_toArray, List.set_cons_zero, List.set_cons_succ, List.getElem_toArray, List.getElem_cons_zero, List.getElem_cons_succ]
  refine mix.D_done (by kernel_rfl) ?_ _
  go_wp2_with fail
  go_ret
  exact ⟨by first | rfl | simp, b0.trans (hd5.mono b0.size)⟩

end Go.Proofs.Ytjlglfjikfpboaa.books
