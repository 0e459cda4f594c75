/- The document's Call, where a secret is taken out. -/
import Derived.Test.YtjlglfjikfpboaaBpC
import Derived.Test.YtjlglfjikfpboaaMixCE


namespace Go.Proofs.Ytjlglfjikfpboaa.books
set_option linter.unusedVariables false
set_option linter.unusedSimpArgs false
open Go.RowKit Go.Shelf Go.Proofs.Ytjlglfjikfpboaa.base Go.Proofs.Ytjlglfjikfpboaa.quotas Go.Proofs.Ytjlglfjikfpboaa.vers Go.Proofs.Ytjlglfjikfpboaa.nodes Go.Proofs.Ytjlglfjikfpboaa.trees Go.Proofs.Ytjlglfjikfpboaa.texts

theorem row_shape {w : World} {e : TypeId} {k n lo : Nat} {v : Value} {xs : List Value} (h : w.ownsRow lo e k v n xs) : ∃ A m c, v = .slice A m c := by
  obtain ⟨A, c, e, _⟩ := row_rdF h
  exact ⟨A, _, c, e⟩
/-- a book made anew -/
theorem rat_row {w w1 W9 : World} {F : Nat → Prop} {es : List E} {A : Option Addr} {c : Nat} {v : Value} {L : List PB} {P : List (List UInt8)} (hR : RAt w F es A c v L P) (bN : Below w.heap.size w W9) {l : List E} {vW : Value} (hrow : w1.ownsRow 0 79 2 vW l.length (cellsE l))
    (hag : ∀ g, vW.ownBlock = some g → W9.heap[g]? = w1.heap[g]? ∧ w.heap.size ≤ g ∧ g < W9.heap.size) (hl : l.length ≤ 2000) (hel : ∀ x ∈ l, VsF W9 (NewB F w W9) x.l x.A x.c ∧ x.s.size ≤ maxLen) {v' : Value} {P' : List (List UInt8)} (hT : TxF W9 (NewB F w W9) v' P') :
    ∃ AW cW, vW = .slice AW l.length cW ∧ RAt W9 (NewB F w W9) l AW cW v' (l.map pe) P' := by
  obtain ⟨AW, cW, e, hc, hn, hr⟩ := row_rdF hrow
  refine ⟨AW, cW, e, ⟨hc, by omega, hn, (hr.agree (w' := W9) (fun g hg => (hag g hg).1)).mono (fun g hg => .inr (hag g hg).2), hel⟩, (hR.new bN).flt, rfl, hT⟩

set_option maxRecDepth 100000 in
set_option maxHeartbeats 4000000 in
theorem call_del (q : Qt) (o : O) (es : List E) (A : Option Addr) (c : Nat) (v : Value) (L : List PB) (P : List (List UInt8)) (w : World) (F : Nat → Prop) (hR : RAt w F es A c v L P) (h1 : rightO q o = 0) (hk : o.k = 3) {lv : List V} (hl : lk L o.s = some lv) (hlen : es.length ≤ 1000) :
    Calls Try.prog 71 #[RV q (.slice A es.length c) v, .agg #[.int .i64 o.k, .string o.s, .string o.v, .string o.t]] w (CPost w q F (del L o.s) P 0) := by
  obtain ⟨vA, vn, vc, rfl⟩ := hR.txt.shape
  obtain ⟨rn, rl, HG⟩ : ∃ rn rl, getP L o.s = (rn, rl, true) := ⟨_, _, by unfold getP; rw [hl]⟩
  have d3 := eq_yes hk
  clear hk hl
  have kb := ((Blk.new w 66 (RC q (.slice A es.length c) (.slice vA vn vc))).alloc (.cells (oc o) 92)).alloc (.cells Z9 66)
  have ko := (Blk.new (w.alloc (.cells (RC q (.slice A es.length c) (.slice vA vn vc)) 66)) 92 (oc o)).alloc (.cells Z9 66)
  have kz := Blk.new ((w.alloc (.cells (RC q (.slice A es.length c) (.slice vA vn vc)) 66)).alloc (.cells (oc o) 92)) 66 Z9
  simp only [World.size_alloc] at ko kz
  have b0 : Below w.heap.size w (((w.alloc (.cells (RC q (.slice A es.length c) (.slice vA vn vc)) 66)).alloc (.cells (oc o) 92)).alloc (.cells Z9 66)) := (((Below.refl _ _).alloc (Nat.le_refl _) _).alloc (by simp) _).alloc (by simp; omega) _
  go_enter Try.func71, Try.ntmps71
  go_upto_region 1 with (fail)
  generalize ((w.alloc (.cells (RC q (.slice A es.length c) (.slice vA vn vc)) 66)).alloc (.cells (oc o) 92)).alloc (.cells Z9 66) = W at *
  have hf := form_any q o W
  obtain ⟨⟨x0, x1, x2, x3, x4, x5, x6, x7, x8⟩, _⟩ := cells9 kb
  obtain ⟨o0, o1, o2, o3⟩ := ocells ko
  have lb := kb.lt
  have lo := ko.lt
  have lz := kz.lt
  go_wp2_with fail
  refine hf.mono ?_
  rintro e w1 ⟨rfl, hb1⟩
  rw [h1]
  have b1 := b0.trans (hb1.mono b0.size)
  clear x0 x1 x2 x3 x4 x5 x6 x7 x8 o0 o1 o2 o3
  have kb1 := kb.below hb1 kb.lt
  have ko1 := ko.below hb1 ko.lt
  have kz1 := kz.below hb1 kz.lt
  obtain ⟨⟨x0, x1, x2, x3, x4, x5, x6, x7, x8⟩, _⟩ := cells9 kb1
  obtain ⟨o0, o1, o2, o3⟩ := ocells ko1
  have lb1 := kb1.lt
  have lo1 := ko1.lt
  have lz1 := kz1.lt
  clear hf lb lo lz kb ko kz
  have hR1 := hR.now (b1.mono (Nat.le_refl _))
  have hg := refGet_any es A c o.s w1 hR1.es_.es
  rw [hR.pe_, HG] at hg
  clear h1
  go_wp2_with fail
  refine hg.mono ?_
  rintro e w2 ⟨hb2, A2, c2, rfl, hO2⟩
  simp only [] at hO2
  have b2 := b1.trans (hb2.mono b1.size)
  clear x0 x1 x2 x3 x4 x5 x6 x7 x8 o0 o1 o2 o3
  have kb2 := kb1.below hb2 kb1.lt
  have ko2 := ko1.below hb2 ko1.lt
  have kz2 := kz1.below hb2 kz1.lt
  have bY : Below w2.heap.size w2 (w2.alloc (.cells #[.string rn, .slice A2 rl.length c2] 79)) := (Below.refl _ _).alloc (Nat.le_refl _) _
  have kY3 := Blk.new w2 79 #[.string rn, .slice A2 rl.length c2]
  have b3 := b2.trans (bY.mono b2.size)
  have hO3 := hO2.agree (Agree.of_below bY fun g hg => hg.2)
  have hR3 := hR.now b3
  have kb3 := kb2.below bY kb2.lt
  have ko3 := ko2.below bY ko2.lt
  have kz3 := kz2.below bY kz2.lt
  generalize hWY : w2.alloc (.cells #[.string rn, .slice A2 rl.length c2] 79) = w3 at *
  have y0 := kY3.cell 0
  have y1 := kY3.cell 1
  simp only [List.getElem?_toArray, List.getElem?_cons_zero, List.getElem?_cons_succ] at y0 y1
  have f0 := kY3.frozen 0
  have f1 := kY3.frozen 1
  have lY3 := kY3.lt
  clear kb1 kb2 ko1 ko2 kz1 kz2 lb1 lo1 lz1 hg hO2
  obtain ⟨⟨x0, x1, x2, x3, x4, x5, x6, x7, x8⟩, _⟩ := cells9 kb3
  obtain ⟨o0, o1, o2, o3⟩ := ocells ko3
  have lb3 := kb3.lt
  have lo3 := ko3.lt
  have lz3 := kz3.lt
  go_wp2_with fail
  have hS0 : Below w3.heap.size w3 w3.drew := (Below.refl _ _).drew
  refine mix.region_D (fun w' => Below w3.heap.size w3 w') (fun j => j == 10 || j == 11) (by kernel_rfl) ?_
  generalize w3.drew = w3d at hS0 ⊢
  refine mix.D_takeT (i := 0) (v := ?_) rfl (by kernel_rfl) (by kernel_rfl) (fun _ _ _ h => h) (Or.inl ⟨by rfl, ?_⟩) hS0 ?_
  rotate_left
  · intro w' hSw
    have y0 := (hSw.cell (p := ⟨w.heap.size, 0, none⟩) lb3).trans x0
    have y1 := (hSw.cell (p := ⟨w.heap.size, 1, none⟩) lb3).trans x1
    have y2 := (hSw.cell (p := ⟨w.heap.size, 2, none⟩) lb3).trans x2
    have y3 := (hSw.cell (p := ⟨w.heap.size, 3, none⟩) lb3).trans x3
    have y4 := (hSw.cell (p := ⟨w.heap.size, 4, none⟩) lb3).trans x4
    have y5 := (hSw.cell (p := ⟨w.heap.size, 5, none⟩) lb3).trans x5
    have y6 := (hSw.cell (p := ⟨w.heap.size, 6, none⟩) lb3).trans x6
    have y7 := (hSw.cell (p := ⟨w.heap.size, 7, none⟩) lb3).trans x7
    have y8 := (hSw.cell (p := ⟨w.heap.size, 8, none⟩) lb3).trans x8
    have y9 := (hSw.cell (p := ⟨w.heap.size + 1, 1, none⟩) lo3).trans o1
    try simp only [List.getElem_toArray, List.getElem_cons_zero, List.getElem_cons_succ]
    go_simp
    exact rfl
  try simp only [Act.put, List.setIfInBounds_toArray, List.set_cons_zero, List.set_cons_succ, List.getElem_toArray, List.getElem_cons_zero, List.getElem_cons_succ]
  refine mix.D_takeT (i := 1) (v := ?_) rfl (by kernel_rfl) (by kernel_rfl) (fun _ _ _ h => h) (Or.inl ⟨by rfl, ?_⟩) hS0 ?_
  rotate_left
  · intro w' hSw
    have y0 := (hSw.cell (p := ⟨w.heap.size, 0, none⟩) lb3).trans x0
    have y1 := (hSw.cell (p := ⟨w.heap.size, 1, none⟩) lb3).trans x1
    have y2 := (hSw.cell (p := ⟨w.heap.size, 2, none⟩) lb3).trans x2
    have y3 := (hSw.cell (p := ⟨w.heap.size, 3, none⟩) lb3).trans x3
    have y4 := (hSw.cell (p := ⟨w.heap.size, 4, none⟩) lb3).trans x4
    have y5 := (hSw.cell (p := ⟨w.heap.size, 5, none⟩) lb3).trans x5
    have y6 := (hSw.cell (p := ⟨w.heap.size, 6, none⟩) lb3).trans x6
    have y7 := (hSw.cell (p := ⟨w.heap.size, 7, none⟩) lb3).trans x7
    have y8 := (hSw.cell (p := ⟨w.heap.size, 8, none⟩) lb3).trans x8
    have y9 := (hSw.cell (p := ⟨w.heap.size + 1, 1, none⟩) lo3).trans o1
    try simp only [List.getElem_toArray, List.getElem_cons_zero, List.getElem_cons_succ]
    go_simp
    exact rfl
  try simp only [Act.put, List.setIfInBounds_toArray, List.set_cons_zero, List.set_cons_succ, List.getElem_toArray, List.getElem_cons_zero, List.getElem_cons_succ]
  refine mix.D_takeT (i := 2) (v := ?_) rfl (by kernel_rfl) (by kernel_rfl) (fun _ _ _ h => h) (Or.inl ⟨by rfl, ?_⟩) hS0 ?_
  rotate_left
  · intro w' hSw
    have y0 := (hSw.cell (p := ⟨w.heap.size, 0, none⟩) lb3).trans x0
    have y1 := (hSw.cell (p := ⟨w.heap.size, 1, none⟩) lb3).trans x1
    have y2 := (hSw.cell (p := ⟨w.heap.size, 2, none⟩) lb3).trans x2
    have y3 := (hSw.cell (p := ⟨w.heap.size, 3, none⟩) lb3).trans x3
    have y4 := (hSw.cell (p := ⟨w.heap.size, 4, none⟩) lb3).trans x4
    have y5 := (hSw.cell (p := ⟨w.heap.size, 5, none⟩) lb3).trans x5
    have y6 := (hSw.cell (p := ⟨w.heap.size, 6, none⟩) lb3).trans x6
    have y7 := (hSw.cell (p := ⟨w.heap.size, 7, none⟩) lb3).trans x7
    have y8 := (hSw.cell (p := ⟨w.heap.size, 8, none⟩) lb3).trans x8
    have y9 := (hSw.cell (p := ⟨w.heap.size + 1, 1, none⟩) lo3).trans o1
    try simp only [List.getElem_toArray, List.getElem_cons_zero, List.getElem_cons_succ]
    go_simp
    exact rfl
  try simp only [Act.put, List.setIfInBounds_toArray, List.set_cons_zero, List.set_cons_succ, List.getElem_toArray, List.getElem_cons_zero, List.getElem_cons_succ]
  refine mix.D_takeT (i := 3) (v := ?_) rfl (by kernel_rfl) (by kernel_rfl) (fun _ _ _ h => h) (Or.inl ⟨by rfl, ?_⟩) hS0 ?_
  rotate_left
  · intro w' hSw
    have y0 := (hSw.cell (p := ⟨w.heap.size, 0, none⟩) lb3).trans x0
    have y1 := (hSw.cell (p := ⟨w.heap.size, 1, none⟩) lb3).trans x1
    have y2 := (hSw.cell (p := ⟨w.heap.size, 2, none⟩) lb3).trans x2
    have y3 := (hSw.cell (p := ⟨w.heap.size, 3, none⟩) lb3).trans x3
    have y4 := (hSw.cell (p := ⟨w.heap.size, 4, none⟩) lb3).trans x4
    have y5 := (hSw.cell (p := ⟨w.heap.size, 5, none⟩) lb3).trans x5
    have y6 := (hSw.cell (p := ⟨w.heap.size, 6, none⟩) lb3).trans x6
    have y7 := (hSw.cell (p := ⟨w.heap.size, 7, none⟩) lb3).trans x7
    have y8 := (hSw.cell (p := ⟨w.heap.size, 8, none⟩) lb3).trans x8
    have y9 := (hSw.cell (p := ⟨w.heap.size + 1, 1, none⟩) lo3).trans o1
    try simp only [List.getElem_toArray, List.getElem_cons_zero, List.getElem_cons_succ]
    go_simp
    exact rfl
  try simp only [Act.put, List.setIfInBounds_toArray, List.set_cons_zero, List.set_cons_succ, List.getElem_toArray, List.getElem_cons_zero, List.getElem_cons_succ]
  refine mix.D_takeT (i := 4) (v := ?_) rfl (by kernel_rfl) (by kernel_rfl) (fun _ _ _ h => h) (Or.inl ⟨by rfl, ?_⟩) hS0 ?_
  rotate_left
  · intro w' hSw
    have y0 := (hSw.cell (p := ⟨w.heap.size, 0, none⟩) lb3).trans x0
    have y1 := (hSw.cell (p := ⟨w.heap.size, 1, none⟩) lb3).trans x1
    have y2 := (hSw.cell (p := ⟨w.heap.size, 2, none⟩) lb3).trans x2
    have y3 := (hSw.cell (p := ⟨w.heap.size, 3, none⟩) lb3).trans x3
    have y4 := (hSw.cell (p := ⟨w.heap.size, 4, none⟩) lb3).trans x4
    have y5 := (hSw.cell (p := ⟨w.heap.size, 5, none⟩) lb3).trans x5
    have y6 := (hSw.cell (p := ⟨w.heap.size, 6, none⟩) lb3).trans x6
    have y7 := (hSw.cell (p := ⟨w.heap.size, 7, none⟩) lb3).trans x7
    have y8 := (hSw.cell (p := ⟨w.heap.size, 8, none⟩) lb3).trans x8
    have y9 := (hSw.cell (p := ⟨w.heap.size + 1, 1, none⟩) lo3).trans o1
    try simp only [List.getElem_toArray, List.getElem_cons_zero, List.getElem_cons_succ]
    go_simp
    exact rfl
  try simp only [Act.put, List.setIfInBounds_toArray, List.set_cons_zero, List.set_cons_succ, List.getElem_toArray, List.getElem_cons_zero, List.getElem_cons_succ]
  refine mix.D_takeT (i := 5) (v := ?_) rfl (by kernel_rfl) (by kernel_rfl) (fun _ _ _ h => h) (Or.inl ⟨by rfl, ?_⟩) hS0 ?_
  rotate_left
  · intro w' hSw
    have y0 := (hSw.cell (p := ⟨w.heap.size, 0, none⟩) lb3).trans x0
    have y1 := (hSw.cell (p := ⟨w.heap.size, 1, none⟩) lb3).trans x1
    have y2 := (hSw.cell (p := ⟨w.heap.size, 2, none⟩) lb3).trans x2
    have y3 := (hSw.cell (p := ⟨w.heap.size, 3, none⟩) lb3).trans x3
    have y4 := (hSw.cell (p := ⟨w.heap.size, 4, none⟩) lb3).trans x4
    have y5 := (hSw.cell (p := ⟨w.heap.size, 5, none⟩) lb3).trans x5
    have y6 := (hSw.cell (p := ⟨w.heap.size, 6, none⟩) lb3).trans x6
    have y7 := (hSw.cell (p := ⟨w.heap.size, 7, none⟩) lb3).trans x7
    have y8 := (hSw.cell (p := ⟨w.heap.size, 8, none⟩) lb3).trans x8
    have y9 := (hSw.cell (p := ⟨w.heap.size + 1, 1, none⟩) lo3).trans o1
    try simp only [List.getElem_toArray, List.getElem_cons_zero, List.getElem_cons_succ]
    go_simp
    exact rfl
  try simp only [Act.put, List.setIfInBounds_toArray, List.set_cons_zero, List.set_cons_succ, List.getElem_toArray, List.getElem_cons_zero, List.getElem_cons_succ]
  refine mix.D_takeT (i := 7) (v := ?_) rfl (by kernel_rfl) (by kernel_rfl) (fun _ _ _ h => h) (Or.inl ⟨by rfl, ?_⟩) hS0 ?_
  rotate_left
  · intro w' hSw
    have y0 := (hSw.cell (p := ⟨w.heap.size, 0, none⟩) lb3).trans x0
    have y1 := (hSw.cell (p := ⟨w.heap.size, 1, none⟩) lb3).trans x1
    have y2 := (hSw.cell (p := ⟨w.heap.size, 2, none⟩) lb3).trans x2
    have y3 := (hSw.cell (p := ⟨w.heap.size, 3, none⟩) lb3).trans x3
    have y4 := (hSw.cell (p := ⟨w.heap.size, 4, none⟩) lb3).trans x4
    have y5 := (hSw.cell (p := ⟨w.heap.size, 5, none⟩) lb3).trans x5
    have y6 := (hSw.cell (p := ⟨w.heap.size, 6, none⟩) lb3).trans x6
    have y7 := (hSw.cell (p := ⟨w.heap.size, 7, none⟩) lb3).trans x7
    have y8 := (hSw.cell (p := ⟨w.heap.size, 8, none⟩) lb3).trans x8
    have y9 := (hSw.cell (p := ⟨w.heap.size + 1, 1, none⟩) lo3).trans o1
    try simp only [List.getElem_toArray, List.getElem_cons_zero, List.getElem_cons_succ]
    go_simp
    exact rfl
  try simp only [Act.put, List.setIfInBounds_toArray, List.set_cons_zero, List.set_cons_succ, List.getElem_toArray, List.getElem_cons_zero, List.getElem_cons_succ]
  refine mix.D_takeT (i := 8) (v := ?_) rfl (by kernel_rfl) (by kernel_rfl) (fun _ _ _ h => h) (Or.inl ⟨by rfl, ?_⟩) hS0 ?_
  rotate_left
  · intro w' hSw
    have y0 := (hSw.cell (p := ⟨w.heap.size, 0, none⟩) lb3).trans x0
    have y1 := (hSw.cell (p := ⟨w.heap.size, 1, none⟩) lb3).trans x1
    have y2 := (hSw.cell (p := ⟨w.heap.size, 2, none⟩) lb3).trans x2
    have y3 := (hSw.cell (p := ⟨w.heap.size, 3, none⟩) lb3).trans x3
    have y4 := (hSw.cell (p := ⟨w.heap.size, 4, none⟩) lb3).trans x4
    have y5 := (hSw.cell (p := ⟨w.heap.size, 5, none⟩) lb3).trans x5
    have y6 := (hSw.cell (p := ⟨w.heap.size, 6, none⟩) lb3).trans x6
    have y7 := (hSw.cell (p := ⟨w.heap.size, 7, none⟩) lb3).trans x7
    have y8 := (hSw.cell (p := ⟨w.heap.size, 8, none⟩) lb3).trans x8
    have y9 := (hSw.cell (p := ⟨w.heap.size + 1, 1, none⟩) lo3).trans o1
    try simp only [List.getElem_toArray, List.getElem_cons_zero, List.getElem_cons_succ]
    go_simp
    exact rfl
  try simp only [Act.put, List.setIfInBounds_toArray, List.set_cons_zero, List.set_cons_succ, List.getElem_toArray, List.getElem_cons_zero, List.getElem_cons_succ]
  refine mix.D_op (k := 6) rfl rfl (by kernel_rfl) (fun K' hK => ?_)
  simp only [List.getElem_toArray, List.getElem_cons_zero, List.getElem_cons_succ]
  go_wp2_with fail
  refine (without_any es A c o.s _ (hR3.now hS0).es_.es hlen).mono ?_
  rintro e wb1 ⟨vW, rfl, hs1, hrW1, hoW1⟩
  obtain ⟨AW, nW, cW, rfl⟩ := row_shape hrW1
  have zc1 := vers.lay (show w3.heap.size ≤ w3d.heap.size from hS0.size)
  have hb1 : Below w3.heap.size w3 wb1 := hS0.trans (hs1.mono hS0.size)
  refine hK.out _ _ (fun _ => hb1) ?_
  clear hK K'
  try simp only [Act.put, List.setIfInBounds_toArray, List.set_cons_zero, List.set_cons_succ]
  refine mix.D_takeT (i := 9) (v := ?_) rfl (by kernel_rfl) (by kernel_rfl) (fun _ _ _ h => h) (Or.inl ⟨by rfl, ?_⟩) hb1 ?_
  rotate_left
  · intro w' hSw
    have y0 := (hSw.cell (p := ⟨w.heap.size, 0, none⟩) lb3).trans x0
    have y1 := (hSw.cell (p := ⟨w.heap.size, 1, none⟩) lb3).trans x1
    have y2 := (hSw.cell (p := ⟨w.heap.size, 2, none⟩) lb3).trans x2
    have y3 := (hSw.cell (p := ⟨w.heap.size, 3, none⟩) lb3).trans x3
    have y4 := (hSw.cell (p := ⟨w.heap.size, 4, none⟩) lb3).trans x4
    have y5 := (hSw.cell (p := ⟨w.heap.size, 5, none⟩) lb3).trans x5
    have y6 := (hSw.cell (p := ⟨w.heap.size, 6, none⟩) lb3).trans x6
    have y7 := (hSw.cell (p := ⟨w.heap.size, 7, none⟩) lb3).trans x7
    have y8 := (hSw.cell (p := ⟨w.heap.size, 8, none⟩) lb3).trans x8
    have y9 := (hSw.cell (p := ⟨w.heap.size + 1, 1, none⟩) lo3).trans o1
    try simp only [List.getElem_toArray, List.getElem_cons_zero, List.getElem_cons_succ]
    go_simp
    exact rfl
  try simp only [Act.put, List.setIfInBounds_toArray, List.set_cons_zero, List.set_cons_succ, List.getElem_toArray, List.getElem_cons_zero, List.getElem_cons_succ]
  refine mix.D_op (k := 10) rfl rfl (by kernel_rfl) (fun K' hK => ?_)
  simp only [List.getElem_toArray, List.getElem_cons_zero, List.getElem_cons_succ]
  have kz9 := kz3.below hb1 kz3.lt
  have b9 := b3.trans (hb1.mono b3.size)
  have hz9 := hb1.size
  obtain ⟨_, n0, n1, n2, n3, n4, n5, n6, n7, n8⟩ := cells9 kz9
  have lz9 := kz9.lt
  have kN := nine_blk kz9 q (.slice AW nW cW) (.slice vA vn vc)
  have bN := nine_below b9 (B := w.heap.size) (g := w.heap.size + 1 + 1) (by omega) q (.slice AW nW cW) (.slice vA vn vc)
  have bM := fun (k : Nat) (hk : k ≠ w.heap.size + 1 + 1) => nine_heap wb1 (w.heap.size + 1 + 1) q (.slice AW nW cW) (.slice vA vn vc) k hk
  have zM := nine_size wb1 (w.heap.size + 1 + 1) q (.slice AW nW cW) (.slice vA vn vc)
  unfold nine at kN bN bM zM
  have HZM := vers.lay zM
  clear zM
  go_wp2_with fail
  refine hK.out _ _ (fun h => by simp at h) ?_
  clear hK K'
  try simp only [Act.put, List.setIfInBounds_toArray, List.set_cons_zero, List.set_cons_succ]
  generalize (((((((((World.setCell wb1 ⟨w.heap.size + 1 + 1, 0, none⟩ (.int .i64 q.a)).setCell ⟨w.heap.size + 1 + 1, 1, none⟩ (.int .i64 q.b)).setCell ⟨w.heap.size + 1 + 1, 2, none⟩ (.int .i64 q.c)).setCell ⟨w.heap.size + 1 + 1, 3, none⟩ (.int .i64 q.d)).setCell ⟨w.heap.size + 1 + 1, 4, none⟩ (.int .i64 q.e)).setCell ⟨w.heap.size + 1 + 1, 5, none⟩ (.int .i64 q.f)).setCell ⟨w.heap.size + 1 + 1, 6, none⟩ (.int .i64 q.h)).setCell ⟨w.heap.size + 1 + 1, 7, none⟩ (.slice AW nW cW)).setCell ⟨w.heap.size + 1 + 1, 8, none⟩ (.slice vA vn vc)) = W9 at kN bN bM HZM ⊢
  refine mix.D_op (k := 11) rfl rfl (by kernel_rfl) (fun K' hK => ?_)
  simp only [List.getElem_toArray, List.getElem_cons_zero, List.getElem_cons_succ]
  go_wp2_with fail
  refine hK.out _ _ (fun h => by simp at h) ?_
  clear hK K'
  refine mix.D_done (by kernel_rfl) ?_ _
  obtain ⟨⟨v0, v1, v2, v3, v4, v5, v6, v7, v8⟩, _⟩ := cells9 kN
  have zM := HZM.out
  obtain ⟨AX, cX, eX, hX⟩ := rat_row hR bN hrW1 (fun g hg => by
    have h1 := hoW1 g hg
    have h2 := (hrW1.lt g hg).2
    have h3 := zc1.out
    exact ⟨bM g (by omega), by omega, by omega⟩) (by have := delE_le es o.s; omega) (fun x hx => ⟨((hR.es_.2.2.2.2 x (List.mem_filter.1 hx).1).1.agree (Agree.of_below bN hR.flt)).mono (fun g hg => .inl hg), (hR.es_.2.2.2.2 x (List.mem_filter.1 hx).1).2⟩) (hR.new bN).txt
  rw [delE_pe, hR.pe_] at hX
  have HX := vers.lay (And.intro eX hX)
  clear eX hX
  go_wp2_with fail
  refine bodyPost_ret (v := .tuple #[RV q (.slice AW nW cW) (.slice vA vn vc), .int .i64 0]) (by simp [results, Try.results71, go_sem, v0, v1, v2, v3, v4, v5, v6, v7, v8]) rfl ⟨_, AX, cX, (.slice vA vn vc), by rw [HX.out.1], bN, HX.out.2⟩

end Go.Proofs.Ytjlglfjikfpboaa.books
