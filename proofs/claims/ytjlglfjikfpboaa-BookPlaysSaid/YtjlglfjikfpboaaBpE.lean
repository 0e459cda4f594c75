/- The document's Call, where a secret is put in. -/
import Derived.Test.YtjlglfjikfpboaaBpD


namespace Go.Proofs.Ytjlglfjikfpboaa.books
set_option linter.unusedVariables false
set_option linter.unusedSimpArgs false
open Go.RowKit Go.Shelf Go.Proofs.Ytjlglfjikfpboaa.base Go.Proofs.Ytjlglfjikfpboaa.quotas Go.Proofs.Ytjlglfjikfpboaa.vers Go.Proofs.Ytjlglfjikfpboaa.nodes Go.Proofs.Ytjlglfjikfpboaa.trees Go.Proofs.Ytjlglfjikfpboaa.texts

theorem hv_vsF {lo : Nat} {w : World} {l : List V} {A : Option Addr} {c : Nat} (h : Vs w w.heap.size l A c) (hl : ∀ b off, A = some ⟨b, off, none⟩ → lo ≤ b) : VsF w (fun g => lo ≤ g ∧ g < w.heap.size) l A c :=
  ⟨h.1, h.2.1, h.2.2.1, fun j u hj => by obtain ⟨b, off, e, hb, hc⟩ := h.2.2.2.1 j u hj; exact ⟨b, off, e, ⟨hl b off e, hb⟩, hc⟩, h.2.2.2.2⟩
theorem nine_keep {w w' : World} (hb : Below w.heap.size w w') (g : Nat) (q : Qt) (x y : Value) : Keep (fun k => k = g) w (nine w' g q x y) := by
  have h := nine_below (hb.mono (Nat.zero_le _)) (Nat.zero_le g) q x y
  exact ⟨h.os, h.tape, h.output, by rw [nine_size]; exact hb.size, fun k hk hn => (nine_heap _ _ _ _ _ _ hn).trans (hb.block k hk)⟩
theorem put4 {w : World} {g : Nat} {t : TypeId} {a b c d : Value} (h : Blk w g t #[a, b, c, d]) (x y z u : Value) : Blk ((((w.setCell ⟨g, 0, none⟩ x).setCell ⟨g, 1, none⟩ y).setCell ⟨g, 2, none⟩ z).setCell ⟨g, 3, none⟩ u) g t #[x, y, z, u] := by
  have := (((h.put 0 x).put 1 y).put 2 z).put 3 u
  simpa using this
theorem cells4 {w : World} {g : Nat} {t : TypeId} {a b c d : Value} (h : Blk w g t #[a, b, c, d]) : w.cell? ⟨g, 0, none⟩ = some a ∧ w.cell? ⟨g, 1, none⟩ = some b ∧ w.cell? ⟨g, 2, none⟩ = some c ∧ w.cell? ⟨g, 3, none⟩ = some d := by
  have t0 := h.cell 0
  have t1 := h.cell 1
  have t2 := h.cell 2
  have t3 := h.cell 3
  simp only [List.getElem?_toArray, List.getElem?_cons_zero, List.getElem?_cons_succ] at t0 t1 t2 t3
  exact ⟨t0, t1, t2, t3⟩

set_option maxRecDepth 100000 in
set_option maxHeartbeats 4000000 in
theorem call_put_a (q : Qt) (o : O) (es : List E) (A : Option Addr) (c : Nat) (v : Value) (L : List PB) (P : List (List UInt8)) (w : World) (F : Nat → Prop) (hR : RAt w F es A c v L P) (h1 : rightO q o = 0) (hk3 : o.k ≠ 3) (hk2 : o.k ≠ 2) (hl : (lk L o.s).isSome = true) (hbad : (addP q.a q.b q.c q.d q.e q.f q.h o.s ((lk L o.s).getD []) o.v o.t q.e).bad ≠ 0) (hfit : o.v.size ≤ maxLen ∧ o.t.size ≤ maxLen) (hos : o.s.size ≤ maxLen) :
    Calls Try.prog 71 #[RV q (.slice A es.length c) v, .agg #[.int .i64 o.k, .string o.s, .string o.v, .string o.t]] w (CPost w q F L P (addP q.a q.b q.c q.d q.e q.f q.h o.s ((lk L o.s).getD []) o.v o.t q.e).bad) := by
  obtain ⟨vA, vn, vc, rfl⟩ := hR.txt.shape
  obtain ⟨rn, rl, HG, HRL⟩ : ∃ rn rl, getP L o.s = (rn, rl, true) ∧ (lk L o.s).getD [] = rl := by
    unfold getP
    cases hll : lk L o.s with
    | none => rw [hll] at hl; cases hl
    | some l => exact ⟨_, _, rfl, rfl⟩
  rw [HRL] at hbad ⊢
  have HBAD := vers.lay hbad
  clear hbad
  have HRS := @addP_name q.a q.b q.c q.d q.e q.f q.h o.s rl o.v o.t q.e
  have d3 := eq_no hk3
  have d2 := eq_no hk2
  clear hk3 hk2 hl HRL
  have kb := ((Blk.new w 66 (RC q (.slice A es.length c) (.slice vA vn vc))).alloc (.cells (oc o) 92)).alloc (.cells Z9 66)
  have ko := (Blk.new (w.alloc (.cells (RC q (.slice A es.length c) (.slice vA vn vc)) 66)) 92 (oc o)).alloc (.cells Z9 66)
  have kz := Blk.new ((w.alloc (.cells (RC q (.slice A es.length c) (.slice vA vn vc)) 66)).alloc (.cells (oc o) 92)) 66 Z9
  simp only [World.size_alloc] at ko kz
  have b0 : Below w.heap.size w (((w.alloc (.cells (RC q (.slice A es.length c) (.slice vA vn vc)) 66)).alloc (.cells (oc o) 92)).alloc (.cells Z9 66)) := (((Below.refl _ _).alloc (Nat.le_refl _) _).alloc (by simp) _).alloc (by simp; omega) _
  go_enter Try.func71, Try.ntmps71
  go_upto_region 1 with (fail)
  generalize ((w.alloc (.cells (RC q (.slice A es.length c) (.slice vA vn vc)) 66)).alloc (.cells (oc o) 92)).alloc (.cells Z9 66) = W at *
  have hf := form_any q o W
  obtain ⟨⟨x0, x1, x2, x3, x4, x5, x6, x7, x8⟩, _⟩ := cells9 kb
  obtain ⟨o0, o1, o2, o3⟩ := ocells ko
  have lb := kb.lt
  have lo := ko.lt
  have lz := kz.lt
  go_wp2_with fail
  refine hf.mono ?_
  rintro e w1 ⟨rfl, hb1⟩
  rw [h1]
  have b1 := b0.trans (hb1.mono b0.size)
  clear x0 x1 x2 x3 x4 x5 x6 x7 x8 o0 o1 o2 o3
  have kb1 := kb.below hb1 kb.lt
  have ko1 := ko.below hb1 ko.lt
  have kz1 := kz.below hb1 kz.lt
  obtain ⟨⟨x0, x1, x2, x3, x4, x5, x6, x7, x8⟩, _⟩ := cells9 kb1
  obtain ⟨o0, o1, o2, o3⟩ := ocells ko1
  have lb1 := kb1.lt
  have lo1 := ko1.lt
  have lz1 := kz1.lt
  clear hf lb lo lz kb ko kz
  have hR1 := hR.now (b1.mono (Nat.le_refl _))
  have hg := refGet_any es A c o.s w1 hR1.es_.es
  rw [hR.pe_, HG] at hg
  clear h1
  go_wp2_with fail
  refine hg.mono ?_
  rintro e w2 ⟨hb2, A2, c2, rfl, hO2⟩
  simp only [] at hO2
  have b2 := b1.trans (hb2.mono b1.size)
  clear x0 x1 x2 x3 x4 x5 x6 x7 x8 o0 o1 o2 o3
  have kb2 := kb1.below hb2 kb1.lt
  have ko2 := ko1.below hb2 ko1.lt
  have kz2 := kz1.below hb2 kz1.lt
  have bY : Below w2.heap.size w2 (w2.alloc (.cells #[.string rn, .slice A2 rl.length c2] 79)) := (Below.refl _ _).alloc (Nat.le_refl _) _
  have kY3 := Blk.new w2 79 #[.string rn, .slice A2 rl.length c2]
  have b3 := b2.trans (bY.mono b2.size)
  have hO3 := hO2.agree (Agree.of_below bY fun g hg => hg.2)
  have hR3 := hR.now b3
  have kb3 := kb2.below bY kb2.lt
  have ko3 := ko2.below bY ko2.lt
  have kz3 := kz2.below bY kz2.lt
  generalize hWY : w2.alloc (.cells #[.string rn, .slice A2 rl.length c2] 79) = w3 at *
  have y0 := kY3.cell 0
  have y1 := kY3.cell 1
  simp only [List.getElem?_toArray, List.getElem?_cons_zero, List.getElem?_cons_succ] at y0 y1
  have f0 := kY3.frozen 0
  have f1 := kY3.frozen 1
  have lY3 := kY3.lt
  clear kb1 ko1 kz1 lb1 lo1 lz1 hg hO2
  obtain ⟨⟨x0, x1, x2, x3, x4, x5, x6, x7, x8⟩, _⟩ := cells9 kb3
  obtain ⟨o0, o1, o2, o3⟩ := ocells ko3
  have lb3 := kb3.lt
  have lo3 := ko3.lt
  have lz3 := kz3.lt
  go_upto_region 12 with (fail)
  have kY4 : Blk (w3.setCell ⟨w2.heap.size, 0, none⟩ (.string o.s)) w2.heap.size 79 #[.string o.s, .slice A2 rl.length c2] := by have := kY3.put 0 (.string o.s); simpa using this
  have hlt2 : w.heap.size + 1 + 1 < w2.heap.size := by have := kb2.lt; have := ko2.lt; have := kz2.lt; omega
  have kb4 := kb3.far (p := ⟨w2.heap.size, 0, none⟩) (by simp; omega) (.string o.s)
  have ko4 := ko3.far (p := ⟨w2.heap.size, 0, none⟩) (by simp; omega) (.string o.s)
  have kz4 := kz3.far (p := ⟨w2.heap.size, 0, none⟩) (by simp; omega) (.string o.s)
  have b4 : Below w.heap.size w (w3.setCell ⟨w2.heap.size, 0, none⟩ (.string o.s)) := b3.setCell (p := ⟨w2.heap.size, 0, none⟩) (by simp; omega) _
  have hV4 : Vs (w3.setCell ⟨w2.heap.size, 0, none⟩ (.string o.s)) (w3.setCell ⟨w2.heap.size, 0, none⟩ (.string o.s)).heap.size rl A2 c2 := (hO3.agree (fun g hg => Below.heap_setCell _ _ _ _ (by simp; omega))).vs.vs
  clear x0 x1 x2 x3 x4 x5 x6 x7 x8 o0 o1 o2 o3 y0 y1 f0 f1 lb3 lo3 lz3 lY3 kb3 ko3 kz3 kY3 hO3 hR3
  generalize w3.setCell ⟨w2.heap.size, 0, none⟩ (.string o.s) = w4 at *
  obtain ⟨⟨x0, x1, x2, x3, x4, x5, x6, x7, x8⟩, _⟩ := cells9 kb4
  obtain ⟨o0, o1, o2, o3⟩ := ocells ko4
  have lb4 := kb4.lt
  have lo4 := ko4.lt
  have lz4 := kz4.lt
  have y0 := kY4.cell 0
  have y1 := kY4.cell 1
  simp only [List.getElem?_toArray, List.getElem?_cons_zero, List.getElem?_cons_succ] at y0 y1
  have lY4 := kY4.lt
  have hp := refPut_any q.a q.b q.c q.d q.e q.f q.h o.s rl A2 c2 o.v o.t w4 hV4 hfit
  generalize addP q.a q.b q.c q.d q.e q.f q.h o.s rl o.v o.t q.e = r0 at *
  go_wp2_with fail
  refine hp.mono ?_
  rintro e w5 ⟨_, _, rfl, hb5, ⟨AX, cX, rfl, hVX, hlX⟩, ⟨AY, cY, rfl, _, _⟩⟩
  have b5 := b4.trans (hb5.mono b4.size)
  have hV5 := hV4.at_world hb5
  clear x0 x1 x2 x3 x4 x5 x6 x7 x8 o0 o1 o2 o3
  clear y0 y1 hp hV4
  have kb5 := kb4.below hb5 kb4.lt
  have ko5 := ko4.below hb5 ko4.lt
  have kz5 := kz4.below hb5 kz4.lt
  have kY5 := kY4.below hb5 kY4.lt
  have bZ : Below w5.heap.size w5 (w5.alloc (.cells #[.string r0.s, .slice AX r0.k.length cX, .slice AY r0.d.length cY, .int .i64 r0.bad] 173)) := (Below.refl _ _).alloc (Nat.le_refl _) _
  have kA6 := Blk.new w5 173 #[.string r0.s, .slice AX r0.k.length cX, .slice AY r0.d.length cY, .int .i64 r0.bad]
  have kb6 := kb5.below bZ kb5.lt
  have ko6 := ko5.below bZ ko5.lt
  have kz6 := kz5.below bZ kz5.lt
  have kY6 := kY5.below bZ kY5.lt
  have b6 := b5.trans (bZ.mono b5.size)
  have hV6 := hV5.at_world bZ
  have hs5 := hb5.size
  have XF6 : VsF (w5.alloc (.cells #[.string r0.s, .slice AX r0.k.length cX, .slice AY r0.d.length cY, .int .i64 r0.bad] 173)) (fun g => w.heap.size + 1 + 1 < g ∧ g < (w5.alloc (.cells #[.string r0.s, .slice AX r0.k.length cX, .slice AY r0.d.length cY, .int .i64 r0.bad] 173)).heap.size) r0.k AX cX := ((hv_vsF hVX hlX).agree (Agree.of_below bZ fun g hg => hg.2)).mono (fun g hg => ⟨by omega, by have := bZ.size; omega⟩)
  generalize hWZ : w5.alloc (.cells #[.string r0.s, .slice AX r0.k.length cX, .slice AY r0.d.length cY, .int .i64 r0.bad] 173) = w6 at *
  obtain ⟨⟨x0, x1, x2, x3, x4, x5, x6, x7, x8⟩, _⟩ := cells9 kb6
  obtain ⟨o0, o1, o2, o3⟩ := ocells ko6
  have lb6 := kb6.lt
  have lo6 := ko6.lt
  have lz6 := kz6.lt
  have y0 := kY6.cell 0
  have y1 := kY6.cell 1
  simp only [List.getElem?_toArray, List.getElem?_cons_zero, List.getElem?_cons_succ] at y0 y1
  have lY6 := kY6.lt
  obtain ⟨a0, a1, a2, a3⟩ := cells4 kA6
  have lA6 := kA6.lt
  have hR8 := hR.now b6
  have d9 := ne_yes HBAD.out
  go_wp2_with fail
  have hS1 : Below w6.heap.size w6 w6.drew := (Below.refl _ _).drew
  have hS0 : Keep (fun g => g = w.heap.size + 1 + 1) w6 w6.drew := Keep.of_below hS1
  refine mix.region_D (fun w' => Keep (fun g => g = w.heap.size + 1 + 1) w6 w') (fun j => j == 4) (by kernel_rfl) ?_
  generalize w6.drew = w6d at hS0 hS1 ⊢
  refine mix.D_takeT (i := 0) (v := ?_) rfl (by kernel_rfl) (by kernel_rfl) (fun _ _ _ h => h) (Or.inl ⟨by rfl, ?_⟩) hS0 ?_
  rotate_left
  · intro w' hSw
    have y0 := (hSw.cell (p := ⟨w.heap.size, 0, none⟩) lb6 (by show ¬ (w.heap.size = w.heap.size + 1 + 1); omega)).trans x0
    have y1 := (hSw.cell (p := ⟨w.heap.size, 1, none⟩) lb6 (by show ¬ (w.heap.size = w.heap.size + 1 + 1); omega)).trans x1
    have y2 := (hSw.cell (p := ⟨w.heap.size, 2, none⟩) lb6 (by show ¬ (w.heap.size = w.heap.size + 1 + 1); omega)).trans x2
    have y3 := (hSw.cell (p := ⟨w.heap.size, 3, none⟩) lb6 (by show ¬ (w.heap.size = w.heap.size + 1 + 1); omega)).trans x3
    have y4 := (hSw.cell (p := ⟨w.heap.size, 4, none⟩) lb6 (by show ¬ (w.heap.size = w.heap.size + 1 + 1); omega)).trans x4
    have y5 := (hSw.cell (p := ⟨w.heap.size, 5, none⟩) lb6 (by show ¬ (w.heap.size = w.heap.size + 1 + 1); omega)).trans x5
    have y6 := (hSw.cell (p := ⟨w.heap.size, 6, none⟩) lb6 (by show ¬ (w.heap.size = w.heap.size + 1 + 1); omega)).trans x6
    have y7 := (hSw.cell (p := ⟨w.heap.size, 7, none⟩) lb6 (by show ¬ (w.heap.size = w.heap.size + 1 + 1); omega)).trans x7
    have y8 := (hSw.cell (p := ⟨w.heap.size, 8, none⟩) lb6 (by show ¬ (w.heap.size = w.heap.size + 1 + 1); omega)).trans x8
    have y9 := (hSw.cell (p := ⟨w5.heap.size, 3, none⟩) lA6 (by show ¬ (w5.heap.size = w.heap.size + 1 + 1); omega)).trans a3
    try simp only [List.getElem_toArray, List.getElem_cons_zero, List.getElem_cons_succ]
    go_simp
    exact rfl
  try simp only [Act.put, List.setIfInBounds_toArray, List.set_cons_zero, List.set_cons_succ, List.getElem_toArray, List.getElem_cons_zero, List.getElem_cons_succ]
  refine mix.D_takeT (i := 1) (v := ?_) rfl (by kernel_rfl) (by kernel_rfl) (fun _ _ _ h => h) (Or.inl ⟨by rfl, ?_⟩) hS0 ?_
  rotate_left
  · intro w' hSw
    have y0 := (hSw.cell (p := ⟨w.heap.size, 0, none⟩) lb6 (by show ¬ (w.heap.size = w.heap.size + 1 + 1); omega)).trans x0
    have y1 := (hSw.cell (p := ⟨w.heap.size, 1, none⟩) lb6 (by show ¬ (w.heap.size = w.heap.size + 1 + 1); omega)).trans x1
    have y2 := (hSw.cell (p := ⟨w.heap.size, 2, none⟩) lb6 (by show ¬ (w.heap.size = w.heap.size + 1 + 1); omega)).trans x2
    have y3 := (hSw.cell (p := ⟨w.heap.size, 3, none⟩) lb6 (by show ¬ (w.heap.size = w.heap.size + 1 + 1); omega)).trans x3
    have y4 := (hSw.cell (p := ⟨w.heap.size, 4, none⟩) lb6 (by show ¬ (w.heap.size = w.heap.size + 1 + 1); omega)).trans x4
    have y5 := (hSw.cell (p := ⟨w.heap.size, 5, none⟩) lb6 (by show ¬ (w.heap.size = w.heap.size + 1 + 1); omega)).trans x5
    have y6 := (hSw.cell (p := ⟨w.heap.size, 6, none⟩) lb6 (by show ¬ (w.heap.size = w.heap.size + 1 + 1); omega)).trans x6
    have y7 := (hSw.cell (p := ⟨w.heap.size, 7, none⟩) lb6 (by show ¬ (w.heap.size = w.heap.size + 1 + 1); omega)).trans x7
    have y8 := (hSw.cell (p := ⟨w.heap.size, 8, none⟩) lb6 (by show ¬ (w.heap.size = w.heap.size + 1 + 1); omega)).trans x8
    have y9 := (hSw.cell (p := ⟨w5.heap.size, 3, none⟩) lA6 (by show ¬ (w5.heap.size = w.heap.size + 1 + 1); omega)).trans a3
    try simp only [List.getElem_toArray, List.getElem_cons_zero, List.getElem_cons_succ]
    go_simp
    exact rfl
  try simp only [Act.put, List.setIfInBounds_toArray, List.set_cons_zero, List.set_cons_succ, List.getElem_toArray, List.getElem_cons_zero, List.getElem_cons_succ]
  refine mix.D_takeT (i := 2) (v := ?_) rfl (by kernel_rfl) (by kernel_rfl) (fun _ _ _ h => h) (Or.inl ⟨by rfl, ?_⟩) hS0 ?_
  rotate_left
  · intro w' hSw
    have y0 := (hSw.cell (p := ⟨w.heap.size, 0, none⟩) lb6 (by show ¬ (w.heap.size = w.heap.size + 1 + 1); omega)).trans x0
    have y1 := (hSw.cell (p := ⟨w.heap.size, 1, none⟩) lb6 (by show ¬ (w.heap.size = w.heap.size + 1 + 1); omega)).trans x1
    have y2 := (hSw.cell (p := ⟨w.heap.size, 2, none⟩) lb6 (by show ¬ (w.heap.size = w.heap.size + 1 + 1); omega)).trans x2
    have y3 := (hSw.cell (p := ⟨w.heap.size, 3, none⟩) lb6 (by show ¬ (w.heap.size = w.heap.size + 1 + 1); omega)).trans x3
    have y4 := (hSw.cell (p := ⟨w.heap.size, 4, none⟩) lb6 (by show ¬ (w.heap.size = w.heap.size + 1 + 1); omega)).trans x4
    have y5 := (hSw.cell (p := ⟨w.heap.size, 5, none⟩) lb6 (by show ¬ (w.heap.size = w.heap.size + 1 + 1); omega)).trans x5
    have y6 := (hSw.cell (p := ⟨w.heap.size, 6, none⟩) lb6 (by show ¬ (w.heap.size = w.heap.size + 1 + 1); omega)).trans x6
    have y7 := (hSw.cell (p := ⟨w.heap.size, 7, none⟩) lb6 (by show ¬ (w.heap.size = w.heap.size + 1 + 1); omega)).trans x7
    have y8 := (hSw.cell (p := ⟨w.heap.size, 8, none⟩) lb6 (by show ¬ (w.heap.size = w.heap.size + 1 + 1); omega)).trans x8
    have y9 := (hSw.cell (p := ⟨w5.heap.size, 3, none⟩) lA6 (by show ¬ (w5.heap.size = w.heap.size + 1 + 1); omega)).trans a3
    try simp only [List.getElem_toArray, List.getElem_cons_zero, List.getElem_cons_succ]
    go_simp
    exact rfl
  try simp only [Act.put, List.setIfInBounds_toArray, List.set_cons_zero, List.set_cons_succ, List.getElem_toArray, List.getElem_cons_zero, List.getElem_cons_succ]
  refine mix.D_op (k := 3) rfl rfl (by kernel_rfl) (fun K' hK => ?_)
  simp only [List.getElem_toArray, List.getElem_cons_zero, List.getElem_cons_succ]
  have kz9 := kz6.below hS1 kz6.lt
  have b9 := b6.trans (hS1.mono b6.size)
  obtain ⟨_, n0, n1, n2, n3, n4, n5, n6, n7, n8⟩ := cells9 kz9
  have lz9 := kz9.lt
  have kKeep := nine_keep hS1 (w.heap.size + 1 + 1) q (.slice A es.length c) (.slice vA vn vc)
  have kN := nine_blk kz9 q (.slice A es.length c) (.slice vA vn vc)
  have bN := nine_below b9 (B := w.heap.size) (g := w.heap.size + 1 + 1) (by omega) q (.slice A es.length c) (.slice vA vn vc)
  unfold nine at kN bN kKeep
  go_wp2_with fail
  refine hK.out _ _ (fun _ => kKeep) ?_
  clear hK K'
  try simp only [Act.put, List.setIfInBounds_toArray, List.set_cons_zero, List.set_cons_succ]
  generalize (((((((((World.setCell w6d ⟨w.heap.size + 1 + 1, 0, none⟩ (.int .i64 q.a)).setCell ⟨w.heap.size + 1 + 1, 1, none⟩ (.int .i64 q.b)).setCell ⟨w.heap.size + 1 + 1, 2, none⟩ (.int .i64 q.c)).setCell ⟨w.heap.size + 1 + 1, 3, none⟩ (.int .i64 q.d)).setCell ⟨w.heap.size + 1 + 1, 4, none⟩ (.int .i64 q.e)).setCell ⟨w.heap.size + 1 + 1, 5, none⟩ (.int .i64 q.f)).setCell ⟨w.heap.size + 1 + 1, 6, none⟩ (.int .i64 q.h)).setCell ⟨w.heap.size + 1 + 1, 7, none⟩ (.slice A es.length c)).setCell ⟨w.heap.size + 1 + 1, 8, none⟩ (.slice vA vn vc)) = W9 at kN bN kKeep ⊢
  refine mix.D_op (k := 4) rfl rfl (by kernel_rfl) (fun K' hK => ?_)
  simp only [List.getElem_toArray, List.getElem_cons_zero, List.getElem_cons_succ]
  go_wp2_with fail
  refine hK.out _ _ (fun h => by simp at h) ?_
  clear hK K'
  refine mix.D_done (by kernel_rfl) ?_ _
  obtain ⟨⟨v0, v1, v2, v3, v4, v5, v6, v7, v8⟩, _⟩ := cells9 kN
  go_wp2_with fail
  refine bodyPost_ret (v := .tuple #[RV q (.slice A es.length c) (.slice vA vn vc), .int .i64 r0.bad]) (by simp [results, Try.results71, go_sem, v0, v1, v2, v3, v4, v5, v6, v7, v8]) rfl ⟨es, A, c, (.slice vA vn vc), rfl, bN, hR.new bN⟩

set_option maxRecDepth 100000 in
set_option maxHeartbeats 4000000 in
theorem call_put_b (q : Qt) (o : O) (es : List E) (A : Option Addr) (c : Nat) (v : Value) (L : List PB) (P : List (List UInt8)) (w : World) (F : Nat → Prop) (hR : RAt w F es A c v L P) (h1 : rightO q o = 0) (hk3 : o.k ≠ 3) (hk2 : o.k ≠ 2) (hl : (lk L o.s).isSome = false) (hf : (L.length : Int) < q.a) (hbad : (addP q.a q.b q.c q.d q.e q.f q.h o.s ((lk L o.s).getD []) o.v o.t q.e).bad ≠ 0) (hfit : o.v.size ≤ maxLen ∧ o.t.size ≤ maxLen) (hos : o.s.size ≤ maxLen) :
    Calls Try.prog 71 #[RV q (.slice A es.length c) v, .agg #[.int .i64 o.k, .string o.s, .string o.v, .string o.t]] w (CPost w q F L P (addP q.a q.b q.c q.d q.e q.f q.h o.s ((lk L o.s).getD []) o.v o.t q.e).bad) := by
  obtain ⟨vA, vn, vc, rfl⟩ := hR.txt.shape
  obtain ⟨rn, rl, HG, HRL⟩ : ∃ rn rl, getP L o.s = (rn, rl, false) ∧ (lk L o.s).getD [] = rl := by
    unfold getP
    cases hll : lk L o.s with
    | none => exact ⟨_, _, rfl, rfl⟩
    | some l => rw [hll] at hl; cases hl
  rw [HRL] at hbad ⊢
  have HBAD := vers.lay hbad
  clear hbad
  have HRS := @addP_name q.a q.b q.c q.d q.e q.f q.h o.s rl o.v o.t q.e
  have d3 := eq_no hk3
  have d2 := eq_no hk2
  have hel : L.length = es.length := by rw [← hR.pe_, List.length_map]
  have d4 : decide (q.a ≤ (es.length : Int)) = false := decide_eq_false (by omega)
  clear hel hf
  clear hk3 hk2 hl HRL
  have kb := ((Blk.new w 66 (RC q (.slice A es.length c) (.slice vA vn vc))).alloc (.cells (oc o) 92)).alloc (.cells Z9 66)
  have ko := (Blk.new (w.alloc (.cells (RC q (.slice A es.length c) (.slice vA vn vc)) 66)) 92 (oc o)).alloc (.cells Z9 66)
  have kz := Blk.new ((w.alloc (.cells (RC q (.slice A es.length c) (.slice vA vn vc)) 66)).alloc (.cells (oc o) 92)) 66 Z9
  simp only [World.size_alloc] at ko kz
  have b0 : Below w.heap.size w (((w.alloc (.cells (RC q (.slice A es.length c) (.slice vA vn vc)) 66)).alloc (.cells (oc o) 92)).alloc (.cells Z9 66)) := (((Below.refl _ _).alloc (Nat.le_refl _) _).alloc (by simp) _).alloc (by simp; omega) _
  go_enter Try.func71, Try.ntmps71
  go_upto_region 1 with (fail)
  generalize ((w.alloc (.cells (RC q (.slice A es.length c) (.slice vA vn vc)) 66)).alloc (.cells (oc o) 92)).alloc (.cells Z9 66) = W at *
  have hf := form_any q o W
  obtain ⟨⟨x0, x1, x2, x3, x4, x5, x6, x7, x8⟩, _⟩ := cells9 kb
  obtain ⟨o0, o1, o2, o3⟩ := ocells ko
  have lb := kb.lt
  have lo := ko.lt
  have lz := kz.lt
  go_wp2_with fail
  refine hf.mono ?_
  rintro e w1 ⟨rfl, hb1⟩
  rw [h1]
  have b1 := b0.trans (hb1.mono b0.size)
  clear x0 x1 x2 x3 x4 x5 x6 x7 x8 o0 o1 o2 o3
  have kb1 := kb.below hb1 kb.lt
  have ko1 := ko.below hb1 ko.lt
  have kz1 := kz.below hb1 kz.lt
  obtain ⟨⟨x0, x1, x2, x3, x4, x5, x6, x7, x8⟩, _⟩ := cells9 kb1
  obtain ⟨o0, o1, o2, o3⟩ := ocells ko1
  have lb1 := kb1.lt
  have lo1 := ko1.lt
  have lz1 := kz1.lt
  clear hf lb lo lz kb ko kz
  have hR1 := hR.now (b1.mono (Nat.le_refl _))
  have hg := refGet_any es A c o.s w1 hR1.es_.es
  rw [hR.pe_, HG] at hg
  clear h1
  go_wp2_with fail
  refine hg.mono ?_
  rintro e w2 ⟨hb2, A2, c2, rfl, hO2⟩
  simp only [] at hO2
  have b2 := b1.trans (hb2.mono b1.size)
  clear x0 x1 x2 x3 x4 x5 x6 x7 x8 o0 o1 o2 o3
  have kb2 := kb1.below hb2 kb1.lt
  have ko2 := ko1.below hb2 ko1.lt
  have kz2 := kz1.below hb2 kz1.lt
  have bY : Below w2.heap.size w2 (w2.alloc (.cells #[.string rn, .slice A2 rl.length c2] 79)) := (Below.refl _ _).alloc (Nat.le_refl _) _
  have kY3 := Blk.new w2 79 #[.string rn, .slice A2 rl.length c2]
  have b3 := b2.trans (bY.mono b2.size)
  have hO3 := hO2.agree (Agree.of_below bY fun g hg => hg.2)
  have hR3 := hR.now b3
  have kb3 := kb2.below bY kb2.lt
  have ko3 := ko2.below bY ko2.lt
  have kz3 := kz2.below bY kz2.lt
  generalize hWY : w2.alloc (.cells #[.string rn, .slice A2 rl.length c2] 79) = w3 at *
  have y0 := kY3.cell 0
  have y1 := kY3.cell 1
  simp only [List.getElem?_toArray, List.getElem?_cons_zero, List.getElem?_cons_succ] at y0 y1
  have f0 := kY3.frozen 0
  have f1 := kY3.frozen 1
  have lY3 := kY3.lt
  clear kb1 ko1 kz1 lb1 lo1 lz1 hg hO2
  obtain ⟨⟨x0, x1, x2, x3, x4, x5, x6, x7, x8⟩, _⟩ := cells9 kb3
  obtain ⟨o0, o1, o2, o3⟩ := ocells ko3
  have lb3 := kb3.lt
  have lo3 := ko3.lt
  have lz3 := kz3.lt
  go_upto_region 12 with (fail)
  have kY4 : Blk (w3.setCell ⟨w2.heap.size, 0, none⟩ (.string o.s)) w2.heap.size 79 #[.string o.s, .slice A2 rl.length c2] := by have := kY3.put 0 (.string o.s); simpa using this
  have hlt2 : w.heap.size + 1 + 1 < w2.heap.size := by have := kb2.lt; have := ko2.lt; have := kz2.lt; omega
  have kb4 := kb3.far (p := ⟨w2.heap.size, 0, none⟩) (by simp; omega) (.string o.s)
  have ko4 := ko3.far (p := ⟨w2.heap.size, 0, none⟩) (by simp; omega) (.string o.s)
  have kz4 := kz3.far (p := ⟨w2.heap.size, 0, none⟩) (by simp; omega) (.string o.s)
  have b4 : Below w.heap.size w (w3.setCell ⟨w2.heap.size, 0, none⟩ (.string o.s)) := b3.setCell (p := ⟨w2.heap.size, 0, none⟩) (by simp; omega) _
  have hV4 : Vs (w3.setCell ⟨w2.heap.size, 0, none⟩ (.string o.s)) (w3.setCell ⟨w2.heap.size, 0, none⟩ (.string o.s)).heap.size rl A2 c2 := (hO3.agree (fun g hg => Below.heap_setCell _ _ _ _ (by simp; omega))).vs.vs
  clear x0 x1 x2 x3 x4 x5 x6 x7 x8 o0 o1 o2 o3 y0 y1 f0 f1 lb3 lo3 lz3 lY3 kb3 ko3 kz3 kY3 hO3 hR3
  generalize w3.setCell ⟨w2.heap.size, 0, none⟩ (.string o.s) = w4 at *
  obtain ⟨⟨x0, x1, x2, x3, x4, x5, x6, x7, x8⟩, _⟩ := cells9 kb4
  obtain ⟨o0, o1, o2, o3⟩ := ocells ko4
  have lb4 := kb4.lt
  have lo4 := ko4.lt
  have lz4 := kz4.lt
  have y0 := kY4.cell 0
  have y1 := kY4.cell 1
  simp only [List.getElem?_toArray, List.getElem?_cons_zero, List.getElem?_cons_succ] at y0 y1
  have lY4 := kY4.lt
  have hp := refPut_any q.a q.b q.c q.d q.e q.f q.h o.s rl A2 c2 o.v o.t w4 hV4 hfit
  generalize addP q.a q.b q.c q.d q.e q.f q.h o.s rl o.v o.t q.e = r0 at *
  go_wp2_with fail
  refine hp.mono ?_
  rintro e w5 ⟨_, _, rfl, hb5, ⟨AX, cX, rfl, hVX, hlX⟩, ⟨AY, cY, rfl, _, _⟩⟩
  have b5 := b4.trans (hb5.mono b4.size)
  have hV5 := hV4.at_world hb5
  clear x0 x1 x2 x3 x4 x5 x6 x7 x8 o0 o1 o2 o3
  clear y0 y1 hp hV4
  have kb5 := kb4.below hb5 kb4.lt
  have ko5 := ko4.below hb5 ko4.lt
  have kz5 := kz4.below hb5 kz4.lt
  have kY5 := kY4.below hb5 kY4.lt
  have bZ : Below w5.heap.size w5 (w5.alloc (.cells #[.string r0.s, .slice AX r0.k.length cX, .slice AY r0.d.length cY, .int .i64 r0.bad] 173)) := (Below.refl _ _).alloc (Nat.le_refl _) _
  have kA6 := Blk.new w5 173 #[.string r0.s, .slice AX r0.k.length cX, .slice AY r0.d.length cY, .int .i64 r0.bad]
  have kb6 := kb5.below bZ kb5.lt
  have ko6 := ko5.below bZ ko5.lt
  have kz6 := kz5.below bZ kz5.lt
  have kY6 := kY5.below bZ kY5.lt
  have b6 := b5.trans (bZ.mono b5.size)
  have hV6 := hV5.at_world bZ
  have hs5 := hb5.size
  have XF6 : VsF (w5.alloc (.cells #[.string r0.s, .slice AX r0.k.length cX, .slice AY r0.d.length cY, .int .i64 r0.bad] 173)) (fun g => w.heap.size + 1 + 1 < g ∧ g < (w5.alloc (.cells #[.string r0.s, .slice AX r0.k.length cX, .slice AY r0.d.length cY, .int .i64 r0.bad] 173)).heap.size) r0.k AX cX := ((hv_vsF hVX hlX).agree (Agree.of_below bZ fun g hg => hg.2)).mono (fun g hg => ⟨by omega, by have := bZ.size; omega⟩)
  generalize hWZ : w5.alloc (.cells #[.string r0.s, .slice AX r0.k.length cX, .slice AY r0.d.length cY, .int .i64 r0.bad] 173) = w6 at *
  obtain ⟨⟨x0, x1, x2, x3, x4, x5, x6, x7, x8⟩, _⟩ := cells9 kb6
  obtain ⟨o0, o1, o2, o3⟩ := ocells ko6
  have lb6 := kb6.lt
  have lo6 := ko6.lt
  have lz6 := kz6.lt
  have y0 := kY6.cell 0
  have y1 := kY6.cell 1
  simp only [List.getElem?_toArray, List.getElem?_cons_zero, List.getElem?_cons_succ] at y0 y1
  have lY6 := kY6.lt
  obtain ⟨a0, a1, a2, a3⟩ := cells4 kA6
  have lA6 := kA6.lt
  have hR8 := hR.now b6
  have d9 := ne_yes HBAD.out
  go_wp2_with fail
  have hS1 : Below w6.heap.size w6 w6.drew := (Below.refl _ _).drew
  have hS0 : Keep (fun g => g = w.heap.size + 1 + 1) w6 w6.drew := Keep.of_below hS1
  refine mix.region_D (fun w' => Keep (fun g => g = w.heap.size + 1 + 1) w6 w') (fun j => j == 4) (by kernel_rfl) ?_
  generalize w6.drew = w6d at hS0 hS1 ⊢
  refine mix.D_takeT (i := 0) (v := ?_) rfl (by kernel_rfl) (by kernel_rfl) (fun _ _ _ h => h) (Or.inl ⟨by rfl, ?_⟩) hS0 ?_
  rotate_left
  · intro w' hSw
    have y0 := (hSw.cell (p := ⟨w.heap.size, 0, none⟩) lb6 (by show ¬ (w.heap.size = w.heap.size + 1 + 1); omega)).trans x0
    have y1 := (hSw.cell (p := ⟨w.heap.size, 1, none⟩) lb6 (by show ¬ (w.heap.size = w.heap.size + 1 + 1); omega)).trans x1
    have y2 := (hSw.cell (p := ⟨w.heap.size, 2, none⟩) lb6 (by show ¬ (w.heap.size = w.heap.size + 1 + 1); omega)).trans x2
    have y3 := (hSw.cell (p := ⟨w.heap.size, 3, none⟩) lb6 (by show ¬ (w.heap.size = w.heap.size + 1 + 1); omega)).trans x3
    have y4 := (hSw.cell (p := ⟨w.heap.size, 4, none⟩) lb6 (by show ¬ (w.heap.size = w.heap.size + 1 + 1); omega)).trans x4
    have y5 := (hSw.cell (p := ⟨w.heap.size, 5, none⟩) lb6 (by show ¬ (w.heap.size = w.heap.size + 1 + 1); omega)).trans x5
    have y6 := (hSw.cell (p := ⟨w.heap.size, 6, none⟩) lb6 (by show ¬ (w.heap.size = w.heap.size + 1 + 1); omega)).trans x6
    have y7 := (hSw.cell (p := ⟨w.heap.size, 7, none⟩) lb6 (by show ¬ (w.heap.size = w.heap.size + 1 + 1); omega)).trans x7
    have y8 := (hSw.cell (p := ⟨w.heap.size, 8, none⟩) lb6 (by show ¬ (w.heap.size = w.heap.size + 1 + 1); omega)).trans x8
    have y9 := (hSw.cell (p := ⟨w5.heap.size, 3, none⟩) lA6 (by show ¬ (w5.heap.size = w.heap.size + 1 + 1); omega)).trans a3
    try simp only [List.getElem_toArray, List.getElem_cons_zero, List.getElem_cons_succ]
    go_simp
    exact rfl
  try simp only [Act.put, List.setIfInBounds_toArray, List.set_cons_zero, List.set_cons_succ, List.getElem_toArray, List.getElem_cons_zero, List.getElem_cons_succ]
  refine mix.D_takeT (i := 1) (v := ?_) rfl (by kernel_rfl) (by kernel_rfl) (fun _ _ _ h => h) (Or.inl ⟨by rfl, ?_⟩) hS0 ?_
  rotate_left
  · intro w' hSw
    have y0 := (hSw.cell (p := ⟨w.heap.size, 0, none⟩) lb6 (by show ¬ (w.heap.size = w.heap.size + 1 + 1); omega)).trans x0
    have y1 := (hSw.cell (p := ⟨w.heap.size, 1, none⟩) lb6 (by show ¬ (w.heap.size = w.heap.size + 1 + 1); omega)).trans x1
    have y2 := (hSw.cell (p := ⟨w.heap.size, 2, none⟩) lb6 (by show ¬ (w.heap.size = w.heap.size + 1 + 1); omega)).trans x2
    have y3 := (hSw.cell (p := ⟨w.heap.size, 3, none⟩) lb6 (by show ¬ (w.heap.size = w.heap.size + 1 + 1); omega)).trans x3
    have y4 := (hSw.cell (p := ⟨w.heap.size, 4, none⟩) lb6 (by show ¬ (w.heap.size = w.heap.size + 1 + 1); omega)).trans x4
    have y5 := (hSw.cell (p := ⟨w.heap.size, 5, none⟩) lb6 (by show ¬ (w.heap.size = w.heap.size + 1 + 1); omega)).trans x5
    have y6 := (hSw.cell (p := ⟨w.heap.size, 6, none⟩) lb6 (by show ¬ (w.heap.size = w.heap.size + 1 + 1); omega)).trans x6
    have y7 := (hSw.cell (p := ⟨w.heap.size, 7, none⟩) lb6 (by show ¬ (w.heap.size = w.heap.size + 1 + 1); omega)).trans x7
    have y8 := (hSw.cell (p := ⟨w.heap.size, 8, none⟩) lb6 (by show ¬ (w.heap.size = w.heap.size + 1 + 1); omega)).trans x8
    have y9 := (hSw.cell (p := ⟨w5.heap.size, 3, none⟩) lA6 (by show ¬ (w5.heap.size = w.heap.size + 1 + 1); omega)).trans a3
    try simp only [List.getElem_toArray, List.getElem_cons_zero, List.getElem_cons_succ]
    go_simp
    exact rfl
  try simp only [Act.put, List.setIfInBounds_toArray, List.set_cons_zero, List.set_cons_succ, List.getElem_toArray, List.getElem_cons_zero, List.getElem_cons_succ]
  refine mix.D_takeT (i := 2) (v := ?_) rfl (by kernel_rfl) (by kernel_rfl) (fun _ _ _ h => h) (Or.inl ⟨by rfl, ?_⟩) hS0 ?_
  rotate_left
  · intro w' hSw
    have y0 := (hSw.cell (p := ⟨w.heap.size, 0, none⟩) lb6 (by show ¬ (w.heap.size = w.heap.size + 1 + 1); omega)).trans x0
    have y1 := (hSw.cell (p := ⟨w.heap.size, 1, none⟩) lb6 (by show ¬ (w.heap.size = w.heap.size + 1 + 1); omega)).trans x1
    have y2 := (hSw.cell (p := ⟨w.heap.size, 2, none⟩) lb6 (by show ¬ (w.heap.size = w.heap.size + 1 + 1); omega)).trans x2
    have y3 := (hSw.cell (p := ⟨w.heap.size, 3, none⟩) lb6 (by show ¬ (w.heap.size = w.heap.size + 1 + 1); omega)).trans x3
    have y4 := (hSw.cell (p := ⟨w.heap.size, 4, none⟩) lb6 (by show ¬ (w.heap.size = w.heap.size + 1 + 1); omega)).trans x4
    have y5 := (hSw.cell (p := ⟨w.heap.size, 5, none⟩) lb6 (by show ¬ (w.heap.size = w.heap.size + 1 + 1); omega)).trans x5
    have y6 := (hSw.cell (p := ⟨w.heap.size, 6, none⟩) lb6 (by show ¬ (w.heap.size = w.heap.size + 1 + 1); omega)).trans x6
    have y7 := (hSw.cell (p := ⟨w.heap.size, 7, none⟩) lb6 (by show ¬ (w.heap.size = w.heap.size + 1 + 1); omega)).trans x7
    have y8 := (hSw.cell (p := ⟨w.heap.size, 8, none⟩) lb6 (by show ¬ (w.heap.size = w.heap.size + 1 + 1); omega)).trans x8
    have y9 := (hSw.cell (p := ⟨w5.heap.size, 3, none⟩) lA6 (by show ¬ (w5.heap.size = w.heap.size + 1 + 1); omega)).trans a3
    try simp only [List.getElem_toArray, List.getElem_cons_zero, List.getElem_cons_succ]
    go_simp
    exact rfl
  try simp only [Act.put, List.setIfInBounds_toArray, List.set_cons_zero, List.set_cons_succ, List.getElem_toArray, List.getElem_cons_zero, List.getElem_cons_succ]
  refine mix.D_op (k := 3) rfl rfl (by kernel_rfl) (fun K' hK => ?_)
  simp only [List.getElem_toArray, List.getElem_cons_zero, List.getElem_cons_succ]
  have kz9 := kz6.below hS1 kz6.lt
  have b9 := b6.trans (hS1.mono b6.size)
  obtain ⟨_, n0, n1, n2, n3, n4, n5, n6, n7, n8⟩ := cells9 kz9
  have lz9 := kz9.lt
  have kKeep := nine_keep hS1 (w.heap.size + 1 + 1) q (.slice A es.length c) (.slice vA vn vc)
  have kN := nine_blk kz9 q (.slice A es.length c) (.slice vA vn vc)
  have bN := nine_below b9 (B := w.heap.size) (g := w.heap.size + 1 + 1) (by omega) q (.slice A es.length c) (.slice vA vn vc)
  unfold nine at kN bN kKeep
  go_wp2_with fail
  refine hK.out _ _ (fun _ => kKeep) ?_
  clear hK K'
  try simp only [Act.put, List.setIfInBounds_toArray, List.set_cons_zero, List.set_cons_succ]
  generalize (((((((((World.setCell w6d ⟨w.heap.size + 1 + 1, 0, none⟩ (.int .i64 q.a)).setCell ⟨w.heap.size + 1 + 1, 1, none⟩ (.int .i64 q.b)).setCell ⟨w.heap.size + 1 + 1, 2, none⟩ (.int .i64 q.c)).setCell ⟨w.heap.size + 1 + 1, 3, none⟩ (.int .i64 q.d)).setCell ⟨w.heap.size + 1 + 1, 4, none⟩ (.int .i64 q.e)).setCell ⟨w.heap.size + 1 + 1, 5, none⟩ (.int .i64 q.f)).setCell ⟨w.heap.size + 1 + 1, 6, none⟩ (.int .i64 q.h)).setCell ⟨w.heap.size + 1 + 1, 7, none⟩ (.slice A es.length c)).setCell ⟨w.heap.size + 1 + 1, 8, none⟩ (.slice vA vn vc)) = W9 at kN bN kKeep ⊢
  refine mix.D_op (k := 4) rfl rfl (by kernel_rfl) (fun K' hK => ?_)
  simp only [List.getElem_toArray, List.getElem_cons_zero, List.getElem_cons_succ]
  go_wp2_with fail
  refine hK.out _ _ (fun h => by simp at h) ?_
  clear hK K'
  refine mix.D_done (by kernel_rfl) ?_ _
  obtain ⟨⟨v0, v1, v2, v3, v4, v5, v6, v7, v8⟩, _⟩ := cells9 kN
  go_wp2_with fail
  refine bodyPost_ret (v := .tuple #[RV q (.slice A es.length c) (.slice vA vn vc), .int .i64 r0.bad]) (by simp [results, Try.results71, go_sem, v0, v1, v2, v3, v4, v5, v6, v7, v8]) rfl ⟨es, A, c, (.slice vA vn vc), rfl, bN, hR.new bN⟩

set_option maxRecDepth 100000 in
set_option maxHeartbeats 4000000 in
theorem call_put_c (q : Qt) (o : O) (es : List E) (A : Option Addr) (c : Nat) (v : Value) (L : List PB) (P : List (List UInt8)) (w : World) (F : Nat → Prop) (hR : RAt w F es A c v L P) (h1 : rightO q o = 0) (hk3 : o.k ≠ 3) (hk2 : o.k ≠ 2) (hl : (lk L o.s).isSome = true) (hbad : (addP q.a q.b q.c q.d q.e q.f q.h o.s ((lk L o.s).getD []) o.v o.t q.e).bad = 0) (hfit : o.v.size ≤ maxLen ∧ o.t.size ≤ maxLen) (hos : o.s.size ≤ maxLen) (hlen : es.length ≤ 1000) (hPl : P.length ≤ 4000000) :
    Calls Try.prog 71 #[RV q (.slice A es.length c) v, .agg #[.int .i64 o.k, .string o.s, .string o.v, .string o.t]] w (CPost w q F (put L (o.s, (addP q.a q.b q.c q.d q.e q.f q.h o.s ((lk L o.s).getD []) o.v o.t q.e).k)) (insD (bn o.v) P false) 0) := by
  obtain ⟨vA, vn, vc, rfl⟩ := hR.txt.shape
  obtain ⟨rn, rl, HG, HRL⟩ : ∃ rn rl, getP L o.s = (rn, rl, true) ∧ (lk L o.s).getD [] = rl := by
    unfold getP
    cases hll : lk L o.s with
    | none => rw [hll] at hl; cases hl
    | some l => exact ⟨_, _, rfl, rfl⟩
  rw [HRL] at hbad ⊢
  have HBAD := vers.lay hbad
  clear hbad
  have HRS := @addP_name q.a q.b q.c q.d q.e q.f q.h o.s rl o.v o.t q.e
  have d3 := eq_no hk3
  have d2 := eq_no hk2
  clear hk3 hk2 hl HRL
  have kb := ((Blk.new w 66 (RC q (.slice A es.length c) (.slice vA vn vc))).alloc (.cells (oc o) 92)).alloc (.cells Z9 66)
  have ko := (Blk.new (w.alloc (.cells (RC q (.slice A es.length c) (.slice vA vn vc)) 66)) 92 (oc o)).alloc (.cells Z9 66)
  have kz := Blk.new ((w.alloc (.cells (RC q (.slice A es.length c) (.slice vA vn vc)) 66)).alloc (.cells (oc o) 92)) 66 Z9
  simp only [World.size_alloc] at ko kz
  have b0 : Below w.heap.size w (((w.alloc (.cells (RC q (.slice A es.length c) (.slice vA vn vc)) 66)).alloc (.cells (oc o) 92)).alloc (.cells Z9 66)) := (((Below.refl _ _).alloc (Nat.le_refl _) _).alloc (by simp) _).alloc (by simp; omega) _
  go_enter Try.func71, Try.ntmps71
  go_upto_region 1 with (fail)
  generalize ((w.alloc (.cells (RC q (.slice A es.length c) (.slice vA vn vc)) 66)).alloc (.cells (oc o) 92)).alloc (.cells Z9 66) = W at *
  have hf := form_any q o W
  obtain ⟨⟨x0, x1, x2, x3, x4, x5, x6, x7, x8⟩, _⟩ := cells9 kb
  obtain ⟨o0, o1, o2, o3⟩ := ocells ko
  have lb := kb.lt
  have lo := ko.lt
  have lz := kz.lt
  go_wp2_with fail
  refine hf.mono ?_
  rintro e w1 ⟨rfl, hb1⟩
  rw [h1]
  have b1 := b0.trans (hb1.mono b0.size)
  clear x0 x1 x2 x3 x4 x5 x6 x7 x8 o0 o1 o2 o3
  have kb1 := kb.below hb1 kb.lt
  have ko1 := ko.below hb1 ko.lt
  have kz1 := kz.below hb1 kz.lt
  obtain ⟨⟨x0, x1, x2, x3, x4, x5, x6, x7, x8⟩, _⟩ := cells9 kb1
  obtain ⟨o0, o1, o2, o3⟩ := ocells ko1
  have lb1 := kb1.lt
  have lo1 := ko1.lt
  have lz1 := kz1.lt
  clear hf lb lo lz kb ko kz
  have hR1 := hR.now (b1.mono (Nat.le_refl _))
  have hg := refGet_any es A c o.s w1 hR1.es_.es
  rw [hR.pe_, HG] at hg
  clear h1
  go_wp2_with fail
  refine hg.mono ?_
  rintro e w2 ⟨hb2, A2, c2, rfl, hO2⟩
  simp only [] at hO2
  have b2 := b1.trans (hb2.mono b1.size)
  clear x0 x1 x2 x3 x4 x5 x6 x7 x8 o0 o1 o2 o3
  have kb2 := kb1.below hb2 kb1.lt
  have ko2 := ko1.below hb2 ko1.lt
  have kz2 := kz1.below hb2 kz1.lt
  have bY : Below w2.heap.size w2 (w2.alloc (.cells #[.string rn, .slice A2 rl.length c2] 79)) := (Below.refl _ _).alloc (Nat.le_refl _) _
  have kY3 := Blk.new w2 79 #[.string rn, .slice A2 rl.length c2]
  have b3 := b2.trans (bY.mono b2.size)
  have hO3 := hO2.agree (Agree.of_below bY fun g hg => hg.2)
  have hR3 := hR.now b3
  have kb3 := kb2.below bY kb2.lt
  have ko3 := ko2.below bY ko2.lt
  have kz3 := kz2.below bY kz2.lt
  generalize hWY : w2.alloc (.cells #[.string rn, .slice A2 rl.length c2] 79) = w3 at *
  have y0 := kY3.cell 0
  have y1 := kY3.cell 1
  simp only [List.getElem?_toArray, List.getElem?_cons_zero, List.getElem?_cons_succ] at y0 y1
  have f0 := kY3.frozen 0
  have f1 := kY3.frozen 1
  have lY3 := kY3.lt
  clear kb1 ko1 kz1 lb1 lo1 lz1 hg hO2
  obtain ⟨⟨x0, x1, x2, x3, x4, x5, x6, x7, x8⟩, _⟩ := cells9 kb3
  obtain ⟨o0, o1, o2, o3⟩ := ocells ko3
  have lb3 := kb3.lt
  have lo3 := ko3.lt
  have lz3 := kz3.lt
  go_upto_region 12 with (fail)
  have kY4 : Blk (w3.setCell ⟨w2.heap.size, 0, none⟩ (.string o.s)) w2.heap.size 79 #[.string o.s, .slice A2 rl.length c2] := by have := kY3.put 0 (.string o.s); simpa using this
  have hlt2 : w.heap.size + 1 + 1 < w2.heap.size := by have := kb2.lt; have := ko2.lt; have := kz2.lt; omega
  have kb4 := kb3.far (p := ⟨w2.heap.size, 0, none⟩) (by simp; omega) (.string o.s)
  have ko4 := ko3.far (p := ⟨w2.heap.size, 0, none⟩) (by simp; omega) (.string o.s)
  have kz4 := kz3.far (p := ⟨w2.heap.size, 0, none⟩) (by simp; omega) (.string o.s)
  have b4 : Below w.heap.size w (w3.setCell ⟨w2.heap.size, 0, none⟩ (.string o.s)) := b3.setCell (p := ⟨w2.heap.size, 0, none⟩) (by simp; omega) _
  have hV4 : Vs (w3.setCell ⟨w2.heap.size, 0, none⟩ (.string o.s)) (w3.setCell ⟨w2.heap.size, 0, none⟩ (.string o.s)).heap.size rl A2 c2 := (hO3.agree (fun g hg => Below.heap_setCell _ _ _ _ (by simp; omega))).vs.vs
  clear x0 x1 x2 x3 x4 x5 x6 x7 x8 o0 o1 o2 o3 y0 y1 f0 f1 lb3 lo3 lz3 lY3 kb3 ko3 kz3 kY3 hO3 hR3
  generalize w3.setCell ⟨w2.heap.size, 0, none⟩ (.string o.s) = w4 at *
  obtain ⟨⟨x0, x1, x2, x3, x4, x5, x6, x7, x8⟩, _⟩ := cells9 kb4
  obtain ⟨o0, o1, o2, o3⟩ := ocells ko4
  have lb4 := kb4.lt
  have lo4 := ko4.lt
  have lz4 := kz4.lt
  have y0 := kY4.cell 0
  have y1 := kY4.cell 1
  simp only [List.getElem?_toArray, List.getElem?_cons_zero, List.getElem?_cons_succ] at y0 y1
  have lY4 := kY4.lt
  have hp := refPut_any q.a q.b q.c q.d q.e q.f q.h o.s rl A2 c2 o.v o.t w4 hV4 hfit
  generalize addP q.a q.b q.c q.d q.e q.f q.h o.s rl o.v o.t q.e = r0 at *
  go_wp2_with fail
  refine hp.mono ?_
  rintro e w5 ⟨_, _, rfl, hb5, ⟨AX, cX, rfl, hVX, hlX⟩, ⟨AY, cY, rfl, _, _⟩⟩
  have b5 := b4.trans (hb5.mono b4.size)
  have hV5 := hV4.at_world hb5
  clear x0 x1 x2 x3 x4 x5 x6 x7 x8 o0 o1 o2 o3
  clear y0 y1 hp hV4
  have kb5 := kb4.below hb5 kb4.lt
  have ko5 := ko4.below hb5 ko4.lt
  have kz5 := kz4.below hb5 kz4.lt
  have kY5 := kY4.below hb5 kY4.lt
  have bZ : Below w5.heap.size w5 (w5.alloc (.cells #[.string r0.s, .slice AX r0.k.length cX, .slice AY r0.d.length cY, .int .i64 r0.bad] 173)) := (Below.refl _ _).alloc (Nat.le_refl _) _
  have kA6 := Blk.new w5 173 #[.string r0.s, .slice AX r0.k.length cX, .slice AY r0.d.length cY, .int .i64 r0.bad]
  have kb6 := kb5.below bZ kb5.lt
  have ko6 := ko5.below bZ ko5.lt
  have kz6 := kz5.below bZ kz5.lt
  have kY6 := kY5.below bZ kY5.lt
  have b6 := b5.trans (bZ.mono b5.size)
  have hV6 := hV5.at_world bZ
  have hs5 := hb5.size
  have XF6 : VsF (w5.alloc (.cells #[.string r0.s, .slice AX r0.k.length cX, .slice AY r0.d.length cY, .int .i64 r0.bad] 173)) (fun g => w.heap.size + 1 + 1 < g ∧ g < (w5.alloc (.cells #[.string r0.s, .slice AX r0.k.length cX, .slice AY r0.d.length cY, .int .i64 r0.bad] 173)).heap.size) r0.k AX cX := ((hv_vsF hVX hlX).agree (Agree.of_below bZ fun g hg => hg.2)).mono (fun g hg => ⟨by omega, by have := bZ.size; omega⟩)
  generalize hWZ : w5.alloc (.cells #[.string r0.s, .slice AX r0.k.length cX, .slice AY r0.d.length cY, .int .i64 r0.bad] 173) = w6 at *
  obtain ⟨⟨x0, x1, x2, x3, x4, x5, x6, x7, x8⟩, _⟩ := cells9 kb6
  obtain ⟨o0, o1, o2, o3⟩ := ocells ko6
  have lb6 := kb6.lt
  have lo6 := ko6.lt
  have lz6 := kz6.lt
  have y0 := kY6.cell 0
  have y1 := kY6.cell 1
  simp only [List.getElem?_toArray, List.getElem?_cons_zero, List.getElem?_cons_succ] at y0 y1
  have lY6 := kY6.lt
  obtain ⟨a0, a1, a2, a3⟩ := cells4 kA6
  have lA6 := kA6.lt
  have hR8 := hR.now b6
  have d9 : (r0.bad != 0) = false := ne_no HBAD.out
  have HRR := vers.lay (HRS HBAD.out)
  clear HBAD HRS
  go_wp2_with fail
  have hS0 : Below w6.heap.size w6 w6.drew := (Below.refl _ _).drew
  refine mix.region_D (fun w' => Below w6.heap.size w6 w') (fun j => j == 13 || j == 14) (by kernel_rfl) ?_
  generalize w6.drew = w6d at hS0 ⊢
  refine mix.D_takeT (i := 0) (v := ?_) rfl (by kernel_rfl) (by kernel_rfl) (fun _ _ _ h => h) (Or.inl ⟨by rfl, ?_⟩) hS0 ?_
  rotate_left
  · intro w' hSw
    have y0 := (hSw.cell (p := ⟨w.heap.size, 0, none⟩) lb6).trans x0
    have y1 := (hSw.cell (p := ⟨w.heap.size, 1, none⟩) lb6).trans x1
    have y2 := (hSw.cell (p := ⟨w.heap.size, 2, none⟩) lb6).trans x2
    have y3 := (hSw.cell (p := ⟨w.heap.size, 3, none⟩) lb6).trans x3
    have y4 := (hSw.cell (p := ⟨w.heap.size, 4, none⟩) lb6).trans x4
    have y5 := (hSw.cell (p := ⟨w.heap.size, 5, none⟩) lb6).trans x5
    have y6 := (hSw.cell (p := ⟨w.heap.size, 6, none⟩) lb6).trans x6
    have y7 := (hSw.cell (p := ⟨w.heap.size, 7, none⟩) lb6).trans x7
    have y8 := (hSw.cell (p := ⟨w.heap.size, 8, none⟩) lb6).trans x8
    have y9 := (hSw.cell (p := ⟨w.heap.size + 1, 2, none⟩) lo6).trans o2
    have y10 := (hSw.cell (p := ⟨w5.heap.size, 0, none⟩) lA6).trans a0
    have y11 := (hSw.cell (p := ⟨w5.heap.size, 1, none⟩) lA6).trans a1
    try simp only [List.getElem_toArray, List.getElem_cons_zero, List.getElem_cons_succ]
    go_simp
    exact rfl
  try simp only [Act.put, List.setIfInBounds_toArray, List.set_cons_zero, List.set_cons_succ, List.getElem_toArray, List.getElem_cons_zero, List.getElem_cons_succ]
  refine mix.D_takeT (i := 1) (v := ?_) rfl (by kernel_rfl) (by kernel_rfl) (fun _ _ _ h => h) (Or.inl ⟨by rfl, ?_⟩) hS0 ?_
  rotate_left
  · intro w' hSw
    have y0 := (hSw.cell (p := ⟨w.heap.size, 0, none⟩) lb6).trans x0
    have y1 := (hSw.cell (p := ⟨w.heap.size, 1, none⟩) lb6).trans x1
    have y2 := (hSw.cell (p := ⟨w.heap.size, 2, none⟩) lb6).trans x2
    have y3 := (hSw.cell (p := ⟨w.heap.size, 3, none⟩) lb6).trans x3
    have y4 := (hSw.cell (p := ⟨w.heap.size, 4, none⟩) lb6).trans x4
    have y5 := (hSw.cell (p := ⟨w.heap.size, 5, none⟩) lb6).trans x5
    have y6 := (hSw.cell (p := ⟨w.heap.size, 6, none⟩) lb6).trans x6
    have y7 := (hSw.cell (p := ⟨w.heap.size, 7, none⟩) lb6).trans x7
    have y8 := (hSw.cell (p := ⟨w.heap.size, 8, none⟩) lb6).trans x8
    have y9 := (hSw.cell (p := ⟨w.heap.size + 1, 2, none⟩) lo6).trans o2
    have y10 := (hSw.cell (p := ⟨w5.heap.size, 0, none⟩) lA6).trans a0
    have y11 := (hSw.cell (p := ⟨w5.heap.size, 1, none⟩) lA6).trans a1
    try simp only [List.getElem_toArray, List.getElem_cons_zero, List.getElem_cons_succ]
    go_simp
    exact rfl
  try simp only [Act.put, List.setIfInBounds_toArray, List.set_cons_zero, List.set_cons_succ, List.getElem_toArray, List.getElem_cons_zero, List.getElem_cons_succ]
  refine mix.D_takeT (i := 2) (v := ?_) rfl (by kernel_rfl) (by kernel_rfl) (fun _ _ _ h => h) (Or.inl ⟨by rfl, ?_⟩) hS0 ?_
  rotate_left
  · intro w' hSw
    have y0 := (hSw.cell (p := ⟨w.heap.size, 0, none⟩) lb6).trans x0
    have y1 := (hSw.cell (p := ⟨w.heap.size, 1, none⟩) lb6).trans x1
    have y2 := (hSw.cell (p := ⟨w.heap.size, 2, none⟩) lb6).trans x2
    have y3 := (hSw.cell (p := ⟨w.heap.size, 3, none⟩) lb6).trans x3
    have y4 := (hSw.cell (p := ⟨w.heap.size, 4, none⟩) lb6).trans x4
    have y5 := (hSw.cell (p := ⟨w.heap.size, 5, none⟩) lb6).trans x5
    have y6 := (hSw.cell (p := ⟨w.heap.size, 6, none⟩) lb6).trans x6
    have y7 := (hSw.cell (p := ⟨w.heap.size, 7, none⟩) lb6).trans x7
    have y8 := (hSw.cell (p := ⟨w.heap.size, 8, none⟩) lb6).trans x8
    have y9 := (hSw.cell (p := ⟨w.heap.size + 1, 2, none⟩) lo6).trans o2
    have y10 := (hSw.cell (p := ⟨w5.heap.size, 0, none⟩) lA6).trans a0
    have y11 := (hSw.cell (p := ⟨w5.heap.size, 1, none⟩) lA6).trans a1
    try simp only [List.getElem_toArray, List.getElem_cons_zero, List.getElem_cons_succ]
    go_simp
    exact rfl
  try simp only [Act.put, List.setIfInBounds_toArray, List.set_cons_zero, List.set_cons_succ, List.getElem_toArray, List.getElem_cons_zero, List.getElem_cons_succ]
  refine mix.D_takeT (i := 3) (v := ?_) rfl (by kernel_rfl) (by kernel_rfl) (fun _ _ _ h => h) (Or.inl ⟨by rfl, ?_⟩) hS0 ?_
  rotate_left
  · intro w' hSw
    have y0 := (hSw.cell (p := ⟨w.heap.size, 0, none⟩) lb6).trans x0
    have y1 := (hSw.cell (p := ⟨w.heap.size, 1, none⟩) lb6).trans x1
    have y2 := (hSw.cell (p := ⟨w.heap.size, 2, none⟩) lb6).trans x2
    have y3 := (hSw.cell (p := ⟨w.heap.size, 3, none⟩) lb6).trans x3
    have y4 := (hSw.cell (p := ⟨w.heap.size, 4, none⟩) lb6).trans x4
    have y5 := (hSw.cell (p := ⟨w.heap.size, 5, none⟩) lb6).trans x5
    have y6 := (hSw.cell (p := ⟨w.heap.size, 6, none⟩) lb6).trans x6
    have y7 := (hSw.cell (p := ⟨w.heap.size, 7, none⟩) lb6).trans x7
    have y8 := (hSw.cell (p := ⟨w.heap.size, 8, none⟩) lb6).trans x8
    have y9 := (hSw.cell (p := ⟨w.heap.size + 1, 2, none⟩) lo6).trans o2
    have y10 := (hSw.cell (p := ⟨w5.heap.size, 0, none⟩) lA6).trans a0
    have y11 := (hSw.cell (p := ⟨w5.heap.size, 1, none⟩) lA6).trans a1
    try simp only [List.getElem_toArray, List.getElem_cons_zero, List.getElem_cons_succ]
    go_simp
    exact rfl
  try simp only [Act.put, List.setIfInBounds_toArray, List.set_cons_zero, List.set_cons_succ, List.getElem_toArray, List.getElem_cons_zero, List.getElem_cons_succ]
  refine mix.D_takeT (i := 4) (v := ?_) rfl (by kernel_rfl) (by kernel_rfl) (fun _ _ _ h => h) (Or.inl ⟨by rfl, ?_⟩) hS0 ?_
  rotate_left
  · intro w' hSw
    have y0 := (hSw.cell (p := ⟨w.heap.size, 0, none⟩) lb6).trans x0
    have y1 := (hSw.cell (p := ⟨w.heap.size, 1, none⟩) lb6).trans x1
    have y2 := (hSw.cell (p := ⟨w.heap.size, 2, none⟩) lb6).trans x2
    have y3 := (hSw.cell (p := ⟨w.heap.size, 3, none⟩) lb6).trans x3
    have y4 := (hSw.cell (p := ⟨w.heap.size, 4, none⟩) lb6).trans x4
    have y5 := (hSw.cell (p := ⟨w.heap.size, 5, none⟩) lb6).trans x5
    have y6 := (hSw.cell (p := ⟨w.heap.size, 6, none⟩) lb6).trans x6
    have y7 := (hSw.cell (p := ⟨w.heap.size, 7, none⟩) lb6).trans x7
    have y8 := (hSw.cell (p := ⟨w.heap.size, 8, none⟩) lb6).trans x8
    have y9 := (hSw.cell (p := ⟨w.heap.size + 1, 2, none⟩) lo6).trans o2
    have y10 := (hSw.cell (p := ⟨w5.heap.size, 0, none⟩) lA6).trans a0
    have y11 := (hSw.cell (p := ⟨w5.heap.size, 1, none⟩) lA6).trans a1
    try simp only [List.getElem_toArray, List.getElem_cons_zero, List.getElem_cons_succ]
    go_simp
    exact rfl
  try simp only [Act.put, List.setIfInBounds_toArray, List.set_cons_zero, List.set_cons_succ, List.getElem_toArray, List.getElem_cons_zero, List.getElem_cons_succ]
  refine mix.D_takeT (i := 5) (v := ?_) rfl (by kernel_rfl) (by kernel_rfl) (fun _ _ _ h => h) (Or.inl ⟨by rfl, ?_⟩) hS0 ?_
  rotate_left
  · intro w' hSw
    have y0 := (hSw.cell (p := ⟨w.heap.size, 0, none⟩) lb6).trans x0
    have y1 := (hSw.cell (p := ⟨w.heap.size, 1, none⟩) lb6).trans x1
    have y2 := (hSw.cell (p := ⟨w.heap.size, 2, none⟩) lb6).trans x2
    have y3 := (hSw.cell (p := ⟨w.heap.size, 3, none⟩) lb6).trans x3
    have y4 := (hSw.cell (p := ⟨w.heap.size, 4, none⟩) lb6).trans x4
    have y5 := (hSw.cell (p := ⟨w.heap.size, 5, none⟩) lb6).trans x5
    have y6 := (hSw.cell (p := ⟨w.heap.size, 6, none⟩) lb6).trans x6
    have y7 := (hSw.cell (p := ⟨w.heap.size, 7, none⟩) lb6).trans x7
    have y8 := (hSw.cell (p := ⟨w.heap.size, 8, none⟩) lb6).trans x8
    have y9 := (hSw.cell (p := ⟨w.heap.size + 1, 2, none⟩) lo6).trans o2
    have y10 := (hSw.cell (p := ⟨w5.heap.size, 0, none⟩) lA6).trans a0
    have y11 := (hSw.cell (p := ⟨w5.heap.size, 1, none⟩) lA6).trans a1
    try simp only [List.getElem_toArray, List.getElem_cons_zero, List.getElem_cons_succ]
    go_simp
    exact rfl
  try simp only [Act.put, List.setIfInBounds_toArray, List.set_cons_zero, List.set_cons_succ, List.getElem_toArray, List.getElem_cons_zero, List.getElem_cons_succ]
  refine mix.D_takeT (i := 7) (v := ?_) rfl (by kernel_rfl) (by kernel_rfl) (fun _ _ _ h => h) (Or.inl ⟨by rfl, ?_⟩) hS0 ?_
  rotate_left
  · intro w' hSw
    have y0 := (hSw.cell (p := ⟨w.heap.size, 0, none⟩) lb6).trans x0
    have y1 := (hSw.cell (p := ⟨w.heap.size, 1, none⟩) lb6).trans x1
    have y2 := (hSw.cell (p := ⟨w.heap.size, 2, none⟩) lb6).trans x2
    have y3 := (hSw.cell (p := ⟨w.heap.size, 3, none⟩) lb6).trans x3
    have y4 := (hSw.cell (p := ⟨w.heap.size, 4, none⟩) lb6).trans x4
    have y5 := (hSw.cell (p := ⟨w.heap.size, 5, none⟩) lb6).trans x5
    have y6 := (hSw.cell (p := ⟨w.heap.size, 6, none⟩) lb6).trans x6
    have y7 := (hSw.cell (p := ⟨w.heap.size, 7, none⟩) lb6).trans x7
    have y8 := (hSw.cell (p := ⟨w.heap.size, 8, none⟩) lb6).trans x8
    have y9 := (hSw.cell (p := ⟨w.heap.size + 1, 2, none⟩) lo6).trans o2
    have y10 := (hSw.cell (p := ⟨w5.heap.size, 0, none⟩) lA6).trans a0
    have y11 := (hSw.cell (p := ⟨w5.heap.size, 1, none⟩) lA6).trans a1
    try simp only [List.getElem_toArray, List.getElem_cons_zero, List.getElem_cons_succ]
    go_simp
    exact rfl
  try simp only [Act.put, List.setIfInBounds_toArray, List.set_cons_zero, List.set_cons_succ, List.getElem_toArray, List.getElem_cons_zero, List.getElem_cons_succ]
  refine mix.D_takeT (i := 8) (v := ?_) rfl (by kernel_rfl) (by kernel_rfl) (fun _ _ _ h => h) (Or.inl ⟨by rfl, ?_⟩) hS0 ?_
  rotate_left
  · intro w' hSw
    have y0 := (hSw.cell (p := ⟨w.heap.size, 0, none⟩) lb6).trans x0
    have y1 := (hSw.cell (p := ⟨w.heap.size, 1, none⟩) lb6).trans x1
    have y2 := (hSw.cell (p := ⟨w.heap.size, 2, none⟩) lb6).trans x2
    have y3 := (hSw.cell (p := ⟨w.heap.size, 3, none⟩) lb6).trans x3
    have y4 := (hSw.cell (p := ⟨w.heap.size, 4, none⟩) lb6).trans x4
    have y5 := (hSw.cell (p := ⟨w.heap.size, 5, none⟩) lb6).trans x5
    have y6 := (hSw.cell (p := ⟨w.heap.size, 6, none⟩) lb6).trans x6
    have y7 := (hSw.cell (p := ⟨w.heap.size, 7, none⟩) lb6).trans x7
    have y8 := (hSw.cell (p := ⟨w.heap.size, 8, none⟩) lb6).trans x8
    have y9 := (hSw.cell (p := ⟨w.heap.size + 1, 2, none⟩) lo6).trans o2
    have y10 := (hSw.cell (p := ⟨w5.heap.size, 0, none⟩) lA6).trans a0
    have y11 := (hSw.cell (p := ⟨w5.heap.size, 1, none⟩) lA6).trans a1
    try simp only [List.getElem_toArray, List.getElem_cons_zero, List.getElem_cons_succ]
    go_simp
    exact rfl
  try simp only [Act.put, List.setIfInBounds_toArray, List.set_cons_zero, List.set_cons_succ, List.getElem_toArray, List.getElem_cons_zero, List.getElem_cons_succ]
  refine mix.D_takeT (i := 9) (v := ?_) rfl (by kernel_rfl) (by kernel_rfl) (fun _ _ _ h => h) (Or.inl ⟨by rfl, ?_⟩) hS0 ?_
  rotate_left
  · intro w' hSw
    have y0 := (hSw.cell (p := ⟨w.heap.size, 0, none⟩) lb6).trans x0
    have y1 := (hSw.cell (p := ⟨w.heap.size, 1, none⟩) lb6).trans x1
    have y2 := (hSw.cell (p := ⟨w.heap.size, 2, none⟩) lb6).trans x2
    have y3 := (hSw.cell (p := ⟨w.heap.size, 3, none⟩) lb6).trans x3
    have y4 := (hSw.cell (p := ⟨w.heap.size, 4, none⟩) lb6).trans x4
    have y5 := (hSw.cell (p := ⟨w.heap.size, 5, none⟩) lb6).trans x5
    have y6 := (hSw.cell (p := ⟨w.heap.size, 6, none⟩) lb6).trans x6
    have y7 := (hSw.cell (p := ⟨w.heap.size, 7, none⟩) lb6).trans x7
    have y8 := (hSw.cell (p := ⟨w.heap.size, 8, none⟩) lb6).trans x8
    have y9 := (hSw.cell (p := ⟨w.heap.size + 1, 2, none⟩) lo6).trans o2
    have y10 := (hSw.cell (p := ⟨w5.heap.size, 0, none⟩) lA6).trans a0
    have y11 := (hSw.cell (p := ⟨w5.heap.size, 1, none⟩) lA6).trans a1
    try simp only [List.getElem_toArray, List.getElem_cons_zero, List.getElem_cons_succ]
    go_simp
    exact rfl
  try simp only [Act.put, List.setIfInBounds_toArray, List.set_cons_zero, List.set_cons_succ, List.getElem_toArray, List.getElem_cons_zero, List.getElem_cons_succ]
  refine mix.D_takeT (i := 10) (v := ?_) rfl (by kernel_rfl) (by kernel_rfl) (fun _ _ _ h => h) (Or.inl ⟨by rfl, ?_⟩) hS0 ?_
  rotate_left
  · intro w' hSw
    have y0 := (hSw.cell (p := ⟨w.heap.size, 0, none⟩) lb6).trans x0
    have y1 := (hSw.cell (p := ⟨w.heap.size, 1, none⟩) lb6).trans x1
    have y2 := (hSw.cell (p := ⟨w.heap.size, 2, none⟩) lb6).trans x2
    have y3 := (hSw.cell (p := ⟨w.heap.size, 3, none⟩) lb6).trans x3
    have y4 := (hSw.cell (p := ⟨w.heap.size, 4, none⟩) lb6).trans x4
    have y5 := (hSw.cell (p := ⟨w.heap.size, 5, none⟩) lb6).trans x5
    have y6 := (hSw.cell (p := ⟨w.heap.size, 6, none⟩) lb6).trans x6
    have y7 := (hSw.cell (p := ⟨w.heap.size, 7, none⟩) lb6).trans x7
    have y8 := (hSw.cell (p := ⟨w.heap.size, 8, none⟩) lb6).trans x8
    have y9 := (hSw.cell (p := ⟨w.heap.size + 1, 2, none⟩) lo6).trans o2
    have y10 := (hSw.cell (p := ⟨w5.heap.size, 0, none⟩) lA6).trans a0
    have y11 := (hSw.cell (p := ⟨w5.heap.size, 1, none⟩) lA6).trans a1
    try simp only [List.getElem_toArray, List.getElem_cons_zero, List.getElem_cons_succ]
    go_simp
    exact rfl
  try simp only [Act.put, List.setIfInBounds_toArray, List.set_cons_zero, List.set_cons_succ, List.getElem_toArray, List.getElem_cons_zero, List.getElem_cons_succ]
  refine mix.D_op (k := 6) rfl rfl (by kernel_rfl) (fun K' hK => ?_)
  simp only [List.getElem_toArray, List.getElem_cons_zero, List.getElem_cons_succ]
  go_wp2_with fail
  refine (with_any es A c (⟨r0.s, r0.k, AX, cX⟩ : E) _ (hR8.now hS0).es_.es hlen).mono ?_
  rintro e wb1 ⟨vW, rfl, hs1, hrW1, hoW1⟩
  obtain ⟨AW9, nW9, cW9, rfl⟩ := row_shape hrW1
  have zc1 := vers.lay (show w6.heap.size ≤ w6d.heap.size from hS0.size)
  have hb1 : Below w6.heap.size w6 wb1 := hS0.trans (hs1.mono hS0.size)
  refine hK.out _ _ (fun _ => hb1) ?_
  clear hK K'
  try simp only [Act.put, List.setIfInBounds_toArray, List.set_cons_zero, List.set_cons_succ]
  refine mix.D_op (k := 11) rfl rfl (by kernel_rfl) (fun K' hK => ?_)
  simp only [List.getElem_toArray, List.getElem_cons_zero, List.getElem_cons_succ]
  go_wp2_with fail
  refine (insert_lo (.slice vA vn vc) 0 P o.v _ (hR8.now hb1).txt.txt hPl).mono ?_
  rintro e wb2 ⟨vT, rfl, hs2, hT2⟩
  obtain ⟨AT9, nT9, cT9, rfl⟩ := (TxF.of hT2).shape
  have zt2 := vers.lay (show w6.heap.size ≤ wb1.heap.size from hb1.size)
  have hrW2 := row_below hrW1 hs2
  have hb2 : Below w6.heap.size w6 wb2 := hb1.trans (hs2.mono hb1.size)
  refine hK.out _ _ (fun _ => hb2) ?_
  clear hK K'
  try simp only [Act.put, List.setIfInBounds_toArray, List.set_cons_zero, List.set_cons_succ]
  refine mix.D_takeT (i := 12) (v := ?_) rfl (by kernel_rfl) (by kernel_rfl) (fun _ _ _ h => h) (Or.inl ⟨by rfl, ?_⟩) hb2 ?_
  rotate_left
  · intro w' hSw
    have y0 := (hSw.cell (p := ⟨w.heap.size, 0, none⟩) lb6).trans x0
    have y1 := (hSw.cell (p := ⟨w.heap.size, 1, none⟩) lb6).trans x1
    have y2 := (hSw.cell (p := ⟨w.heap.size, 2, none⟩) lb6).trans x2
    have y3 := (hSw.cell (p := ⟨w.heap.size, 3, none⟩) lb6).trans x3
    have y4 := (hSw.cell (p := ⟨w.heap.size, 4, none⟩) lb6).trans x4
    have y5 := (hSw.cell (p := ⟨w.heap.size, 5, none⟩) lb6).trans x5
    have y6 := (hSw.cell (p := ⟨w.heap.size, 6, none⟩) lb6).trans x6
    have y7 := (hSw.cell (p := ⟨w.heap.size, 7, none⟩) lb6).trans x7
    have y8 := (hSw.cell (p := ⟨w.heap.size, 8, none⟩) lb6).trans x8
    have y9 := (hSw.cell (p := ⟨w.heap.size + 1, 2, none⟩) lo6).trans o2
    have y10 := (hSw.cell (p := ⟨w5.heap.size, 0, none⟩) lA6).trans a0
    have y11 := (hSw.cell (p := ⟨w5.heap.size, 1, none⟩) lA6).trans a1
    try simp only [List.getElem_toArray, List.getElem_cons_zero, List.getElem_cons_succ]
    go_simp
    exact rfl
  try simp only [Act.put, List.setIfInBounds_toArray, List.set_cons_zero, List.set_cons_succ, List.getElem_toArray, List.getElem_cons_zero, List.getElem_cons_succ]
  refine mix.D_op (k := 13) rfl rfl (by kernel_rfl) (fun K' hK => ?_)
  simp only [List.getElem_toArray, List.getElem_cons_zero, List.getElem_cons_succ]
  have kz9 := kz6.below hb2 kz6.lt
  have b9 := b6.trans (hb2.mono b6.size)
  have XF9 := XF6.agree (Agree.of_below hb2 fun g hg => hg.2)
  have hz9 := hb2.size
  obtain ⟨_, n0, n1, n2, n3, n4, n5, n6, n7, n8⟩ := cells9 kz9
  have lz9 := kz9.lt
  have kN := nine_blk kz9 q (.slice AW9 nW9 cW9) (.slice AT9 nT9 cT9)
  have bN := nine_below b9 (B := w.heap.size) (g := w.heap.size + 1 + 1) (by omega) q (.slice AW9 nW9 cW9) (.slice AT9 nT9 cT9)
  have bM := fun (k : Nat) (hk : k ≠ w.heap.size + 1 + 1) => nine_heap wb2 (w.heap.size + 1 + 1) q (.slice AW9 nW9 cW9) (.slice AT9 nT9 cT9) k hk
  have zM := nine_size wb2 (w.heap.size + 1 + 1) q (.slice AW9 nW9 cW9) (.slice AT9 nT9 cT9)
  unfold nine at kN bN bM zM
  have HZM := vers.lay zM
  clear zM
  go_wp2_with fail
  refine hK.out _ _ (fun h => by simp at h) ?_
  clear hK K'
  try simp only [Act.put, List.setIfInBounds_toArray, List.set_cons_zero, List.set_cons_succ]
  generalize (((((((((World.setCell wb2 ⟨w.heap.size + 1 + 1, 0, none⟩ (.int .i64 q.a)).setCell ⟨w.heap.size + 1 + 1, 1, none⟩ (.int .i64 q.b)).setCell ⟨w.heap.size + 1 + 1, 2, none⟩ (.int .i64 q.c)).setCell ⟨w.heap.size + 1 + 1, 3, none⟩ (.int .i64 q.d)).setCell ⟨w.heap.size + 1 + 1, 4, none⟩ (.int .i64 q.e)).setCell ⟨w.heap.size + 1 + 1, 5, none⟩ (.int .i64 q.f)).setCell ⟨w.heap.size + 1 + 1, 6, none⟩ (.int .i64 q.h)).setCell ⟨w.heap.size + 1 + 1, 7, none⟩ (.slice AW9 nW9 cW9)).setCell ⟨w.heap.size + 1 + 1, 8, none⟩ (.slice AT9 nT9 cT9)) = W9 at kN bN bM HZM ⊢
  refine mix.D_op (k := 14) rfl rfl (by kernel_rfl) (fun K' hK => ?_)
  simp only [List.getElem_toArray, List.getElem_cons_zero, List.getElem_cons_succ]
  go_wp2_with fail
  refine hK.out _ _ (fun h => by simp at h) ?_
  clear hK K'
  refine mix.D_done (by kernel_rfl) ?_ _
  obtain ⟨⟨v0, v1, v2, v3, v4, v5, v6, v7, v8⟩, _⟩ := cells9 kN
  have HFIN : Hid (∃ AX9 cX9, Value.slice AW9 nW9 cW9 = .slice AX9 (insE (⟨r0.s, r0.k, AX, cX⟩ : E) (delE es r0.s)).length cX9 ∧ RAt W9 (NewB F w W9) (insE (⟨r0.s, r0.k, AX, cX⟩ : E) (delE es r0.s)) AX9 cX9 (.slice AT9 nT9 cT9) (put L (o.s, r0.k)) (insD (bn o.v) P false)) := vers.lay (by
    have zM := HZM.out
    have hrs := HRR.out
    have h3 := zc1.out
    have h4 := zt2.out
    have hl8 : w.heap.size + 1 + 1 < w6.heap.size := kz6.lt
    obtain ⟨AX9, cX9, eX, hX⟩ := rat_row hR bN hrW2 (fun g hg => by
      have h1 := hoW1 g hg
      have h2 := (hrW2.lt g hg).2
      exact ⟨bM g (by omega), by omega, by omega⟩) (by rw [insE_len]; have := delE_le es r0.s; omega) (fun y hy => by
      rcases insE_mem _ _ _ hy with rfl | hy
      · exact ⟨(XF9.agree (fun g hg => bM g (by omega))).mono (fun g hg => .inr ⟨by omega, by omega⟩), by show r0.s.size ≤ maxLen; rw [hrs]; exact hos⟩
      · have hm := (List.mem_filter.1 hy).1
        exact ⟨((hR.es_.2.2.2.2 y hm).1.agree (Agree.of_below bN hR.flt)).mono (fun g hg => .inl hg), (hR.es_.2.2.2.2 y hm).2⟩) (((TxF.of hT2).agree (fun g hg => bM g (by omega))).mono (fun g hg => .inr ⟨by omega, by omega⟩))
    refine ⟨AX9, cX9, eX, ?_⟩
    rw [insE_pe, delE_pe, hR.pe_] at hX
    have e9 : (pe (⟨r0.s, r0.k, AX, cX⟩ : E)) = (o.s, r0.k) := by show (r0.s, r0.k) = _; rw [hrs]
    rw [e9, hrs] at hX
    rw [hrs]
    exact hX)
  go_wp2_with fail
  obtain ⟨AX9, cX9, eX, hX⟩ := HFIN.out
  refine bodyPost_ret (v := .tuple #[RV q (.slice AW9 nW9 cW9) (.slice AT9 nT9 cT9), .int .i64 0]) (by simp [results, Try.results71, go_sem, v0, v1, v2, v3, v4, v5, v6, v7, v8]) rfl ⟨_, AX9, cX9, _, by rw [eX], bN, hX⟩

set_option maxRecDepth 100000 in
set_option maxHeartbeats 4000000 in
theorem call_put_d (q : Qt) (o : O) (es : List E) (A : Option Addr) (c : Nat) (v : Value) (L : List PB) (P : List (List UInt8)) (w : World) (F : Nat → Prop) (hR : RAt w F es A c v L P) (h1 : rightO q o = 0) (hk3 : o.k ≠ 3) (hk2 : o.k ≠ 2) (hl : (lk L o.s).isSome = false) (hf : (L.length : Int) < q.a) (hbad : (addP q.a q.b q.c q.d q.e q.f q.h o.s ((lk L o.s).getD []) o.v o.t q.e).bad = 0) (hfit : o.v.size ≤ maxLen ∧ o.t.size ≤ maxLen) (hos : o.s.size ≤ maxLen) (hlen : es.length ≤ 1000) (hPl : P.length ≤ 4000000) :
    Calls Try.prog 71 #[RV q (.slice A es.length c) v, .agg #[.int .i64 o.k, .string o.s, .string o.v, .string o.t]] w (CPost w q F (put L (o.s, (addP q.a q.b q.c q.d q.e q.f q.h o.s ((lk L o.s).getD []) o.v o.t q.e).k)) (insD (bn o.v) P false) 0) := by
  obtain ⟨vA, vn, vc, rfl⟩ := hR.txt.shape
  obtain ⟨rn, rl, HG, HRL⟩ : ∃ rn rl, getP L o.s = (rn, rl, false) ∧ (lk L o.s).getD [] = rl := by
    unfold getP
    cases hll : lk L o.s with
    | none => exact ⟨_, _, rfl, rfl⟩
    | some l => rw [hll] at hl; cases hl
  rw [HRL] at hbad ⊢
  have HBAD := vers.lay hbad
  clear hbad
  have HRS := @addP_name q.a q.b q.c q.d q.e q.f q.h o.s rl o.v o.t q.e
  have d3 := eq_no hk3
  have d2 := eq_no hk2
  have hel : L.length = es.length := by rw [← hR.pe_, List.length_map]
  have d4 : decide (q.a ≤ (es.length : Int)) = false := decide_eq_false (by omega)
  clear hel hf
  clear hk3 hk2 hl HRL
  have kb := ((Blk.new w 66 (RC q (.slice A es.length c) (.slice vA vn vc))).alloc (.cells (oc o) 92)).alloc (.cells Z9 66)
  have ko := (Blk.new (w.alloc (.cells (RC q (.slice A es.length c) (.slice vA vn vc)) 66)) 92 (oc o)).alloc (.cells Z9 66)
  have kz := Blk.new ((w.alloc (.cells (RC q (.slice A es.length c) (.slice vA vn vc)) 66)).alloc (.cells (oc o) 92)) 66 Z9
  simp only [World.size_alloc] at ko kz
  have b0 : Below w.heap.size w (((w.alloc (.cells (RC q (.slice A es.length c) (.slice vA vn vc)) 66)).alloc (.cells (oc o) 92)).alloc (.cells Z9 66)) := (((Below.refl _ _).alloc (Nat.le_refl _) _).alloc (by simp) _).alloc (by simp; omega) _
  go_enter Try.func71, Try.ntmps71
  go_upto_region 1 with (fail)
  generalize ((w.alloc (.cells (RC q (.slice A es.length c) (.slice vA vn vc)) 66)).alloc (.cells (oc o) 92)).alloc (.cells Z9 66) = W at *
  have hf := form_any q o W
  obtain ⟨⟨x0, x1, x2, x3, x4, x5, x6, x7, x8⟩, _⟩ := cells9 kb
  obtain ⟨o0, o1, o2, o3⟩ := ocells ko
  have lb := kb.lt
  have lo := ko.lt
  have lz := kz.lt
  go_wp2_with fail
  refine hf.mono ?_
  rintro e w1 ⟨rfl, hb1⟩
  rw [h1]
  have b1 := b0.trans (hb1.mono b0.size)
  clear x0 x1 x2 x3 x4 x5 x6 x7 x8 o0 o1 o2 o3
  have kb1 := kb.below hb1 kb.lt
  have ko1 := ko.below hb1 ko.lt
  have kz1 := kz.below hb1 kz.lt
  obtain ⟨⟨x0, x1, x2, x3, x4, x5, x6, x7, x8⟩, _⟩ := cells9 kb1
  obtain ⟨o0, o1, o2, o3⟩ := ocells ko1
  have lb1 := kb1.lt
  have lo1 := ko1.lt
  have lz1 := kz1.lt
  clear hf lb lo lz kb ko kz
  have hR1 := hR.now (b1.mono (Nat.le_refl _))
  have hg := refGet_any es A c o.s w1 hR1.es_.es
  rw [hR.pe_, HG] at hg
  clear h1
  go_wp2_with fail
  refine hg.mono ?_
  rintro e w2 ⟨hb2, A2, c2, rfl, hO2⟩
  simp only [] at hO2
  have b2 := b1.trans (hb2.mono b1.size)
  clear x0 x1 x2 x3 x4 x5 x6 x7 x8 o0 o1 o2 o3
  have kb2 := kb1.below hb2 kb1.lt
  have ko2 := ko1.below hb2 ko1.lt
  have kz2 := kz1.below hb2 kz1.lt
  have bY : Below w2.heap.size w2 (w2.alloc (.cells #[.string rn, .slice A2 rl.length c2] 79)) := (Below.refl _ _).alloc (Nat.le_refl _) _
  have kY3 := Blk.new w2 79 #[.string rn, .slice A2 rl.length c2]
  have b3 := b2.trans (bY.mono b2.size)
  have hO3 := hO2.agree (Agree.of_below bY fun g hg => hg.2)
  have hR3 := hR.now b3
  have kb3 := kb2.below bY kb2.lt
  have ko3 := ko2.below bY ko2.lt
  have kz3 := kz2.below bY kz2.lt
  generalize hWY : w2.alloc (.cells #[.string rn, .slice A2 rl.length c2] 79) = w3 at *
  have y0 := kY3.cell 0
  have y1 := kY3.cell 1
  simp only [List.getElem?_toArray, List.getElem?_cons_zero, List.getElem?_cons_succ] at y0 y1
  have f0 := kY3.frozen 0
  have f1 := kY3.frozen 1
  have lY3 := kY3.lt
  clear kb1 ko1 kz1 lb1 lo1 lz1 hg hO2
  obtain ⟨⟨x0, x1, x2, x3, x4, x5, x6, x7, x8⟩, _⟩ := cells9 kb3
  obtain ⟨o0, o1, o2, o3⟩ := ocells ko3
  have lb3 := kb3.lt
  have lo3 := ko3.lt
  have lz3 := kz3.lt
  go_upto_region 12 with (fail)
  have kY4 : Blk (w3.setCell ⟨w2.heap.size, 0, none⟩ (.string o.s)) w2.heap.size 79 #[.string o.s, .slice A2 rl.length c2] := by have := kY3.put 0 (.string o.s); simpa using this
  have hlt2 : w.heap.size + 1 + 1 < w2.heap.size := by have := kb2.lt; have := ko2.lt; have := kz2.lt; omega
  have kb4 := kb3.far (p := ⟨w2.heap.size, 0, none⟩) (by simp; omega) (.string o.s)
  have ko4 := ko3.far (p := ⟨w2.heap.size, 0, none⟩) (by simp; omega) (.string o.s)
  have kz4 := kz3.far (p := ⟨w2.heap.size, 0, none⟩) (by simp; omega) (.string o.s)
  have b4 : Below w.heap.size w (w3.setCell ⟨w2.heap.size, 0, none⟩ (.string o.s)) := b3.setCell (p := ⟨w2.heap.size, 0, none⟩) (by simp; omega) _
  have hV4 : Vs (w3.setCell ⟨w2.heap.size, 0, none⟩ (.string o.s)) (w3.setCell ⟨w2.heap.size, 0, none⟩ (.string o.s)).heap.size rl A2 c2 := (hO3.agree (fun g hg => Below.heap_setCell _ _ _ _ (by simp; omega))).vs.vs
  clear x0 x1 x2 x3 x4 x5 x6 x7 x8 o0 o1 o2 o3 y0 y1 f0 f1 lb3 lo3 lz3 lY3 kb3 ko3 kz3 kY3 hO3 hR3
  generalize w3.setCell ⟨w2.heap.size, 0, none⟩ (.string o.s) = w4 at *
  obtain ⟨⟨x0, x1, x2, x3, x4, x5, x6, x7, x8⟩, _⟩ := cells9 kb4
  obtain ⟨o0, o1, o2, o3⟩ := ocells ko4
  have lb4 := kb4.lt
  have lo4 := ko4.lt
  have lz4 := kz4.lt
  have y0 := kY4.cell 0
  have y1 := kY4.cell 1
  simp only [List.getElem?_toArray, List.getElem?_cons_zero, List.getElem?_cons_succ] at y0 y1
  have lY4 := kY4.lt
  have hp := refPut_any q.a q.b q.c q.d q.e q.f q.h o.s rl A2 c2 o.v o.t w4 hV4 hfit
  generalize addP q.a q.b q.c q.d q.e q.f q.h o.s rl o.v o.t q.e = r0 at *
  go_wp2_with fail
  refine hp.mono ?_
  rintro e w5 ⟨_, _, rfl, hb5, ⟨AX, cX, rfl, hVX, hlX⟩, ⟨AY, cY, rfl, _, _⟩⟩
  have b5 := b4.trans (hb5.mono b4.size)
  have hV5 := hV4.at_world hb5
  clear x0 x1 x2 x3 x4 x5 x6 x7 x8 o0 o1 o2 o3
  clear y0 y1 hp hV4
  have kb5 := kb4.below hb5 kb4.lt
  have ko5 := ko4.below hb5 ko4.lt
  have kz5 := kz4.below hb5 kz4.lt
  have kY5 := kY4.below hb5 kY4.lt
  have bZ : Below w5.heap.size w5 (w5.alloc (.cells #[.string r0.s, .slice AX r0.k.length cX, .slice AY r0.d.length cY, .int .i64 r0.bad] 173)) := (Below.refl _ _).alloc (Nat.le_refl _) _
  have kA6 := Blk.new w5 173 #[.string r0.s, .slice AX r0.k.length cX, .slice AY r0.d.length cY, .int .i64 r0.bad]
  have kb6 := kb5.below bZ kb5.lt
  have ko6 := ko5.below bZ ko5.lt
  have kz6 := kz5.below bZ kz5.lt
  have kY6 := kY5.below bZ kY5.lt
  have b6 := b5.trans (bZ.mono b5.size)
  have hV6 := hV5.at_world bZ
  have hs5 := hb5.size
  have XF6 : VsF (w5.alloc (.cells #[.string r0.s, .slice AX r0.k.length cX, .slice AY r0.d.length cY, .int .i64 r0.bad] 173)) (fun g => w.heap.size + 1 + 1 < g ∧ g < (w5.alloc (.cells #[.string r0.s, .slice AX r0.k.length cX, .slice AY r0.d.length cY, .int .i64 r0.bad] 173)).heap.size) r0.k AX cX := ((hv_vsF hVX hlX).agree (Agree.of_below bZ fun g hg => hg.2)).mono (fun g hg => ⟨by omega, by have := bZ.size; omega⟩)
  generalize hWZ : w5.alloc (.cells #[.string r0.s, .slice AX r0.k.length cX, .slice AY r0.d.length cY, .int .i64 r0.bad] 173) = w6 at *
  obtain ⟨⟨x0, x1, x2, x3, x4, x5, x6, x7, x8⟩, _⟩ := cells9 kb6
  obtain ⟨o0, o1, o2, o3⟩ := ocells ko6
  have lb6 := kb6.lt
  have lo6 := ko6.lt
  have lz6 := kz6.lt
  have y0 := kY6.cell 0
  have y1 := kY6.cell 1
  simp only [List.getElem?_toArray, List.getElem?_cons_zero, List.getElem?_cons_succ] at y0 y1
  have lY6 := kY6.lt
  obtain ⟨a0, a1, a2, a3⟩ := cells4 kA6
  have lA6 := kA6.lt
  have hR8 := hR.now b6
  have d9 : (r0.bad != 0) = false := ne_no HBAD.out
  have HRR := vers.lay (HRS HBAD.out)
  clear HBAD HRS
  go_wp2_with fail
  have hS0 : Below w6.heap.size w6 w6.drew := (Below.refl _ _).drew
  refine mix.region_D (fun w' => Below w6.heap.size w6 w') (fun j => j == 13 || j == 14) (by kernel_rfl) ?_
  generalize w6.drew = w6d at hS0 ⊢
  refine mix.D_takeT (i := 0) (v := ?_) rfl (by kernel_rfl) (by kernel_rfl) (fun _ _ _ h => h) (Or.inl ⟨by rfl, ?_⟩) hS0 ?_
  rotate_left
  · intro w' hSw
    have y0 := (hSw.cell (p := ⟨w.heap.size, 0, none⟩) lb6).trans x0
    have y1 := (hSw.cell (p := ⟨w.heap.size, 1, none⟩) lb6).trans x1
    have y2 := (hSw.cell (p := ⟨w.heap.size, 2, none⟩) lb6).trans x2
    have y3 := (hSw.cell (p := ⟨w.heap.size, 3, none⟩) lb6).trans x3
    have y4 := (hSw.cell (p := ⟨w.heap.size, 4, none⟩) lb6).trans x4
    have y5 := (hSw.cell (p := ⟨w.heap.size, 5, none⟩) lb6).trans x5
    have y6 := (hSw.cell (p := ⟨w.heap.size, 6, none⟩) lb6).trans x6
    have y7 := (hSw.cell (p := ⟨w.heap.size, 7, none⟩) lb6).trans x7
    have y8 := (hSw.cell (p := ⟨w.heap.size, 8, none⟩) lb6).trans x8
    have y9 := (hSw.cell (p := ⟨w.heap.size + 1, 2, none⟩) lo6).trans o2
    have y10 := (hSw.cell (p := ⟨w5.heap.size, 0, none⟩) lA6).trans a0
    have y11 := (hSw.cell (p := ⟨w5.heap.size, 1, none⟩) lA6).trans a1
    try simp only [List.getElem_toArray, List.getElem_cons_zero, List.getElem_cons_succ]
    go_simp
    exact rfl
  try simp only [Act.put, List.setIfInBounds_toArray, List.set_cons_zero, List.set_cons_succ, List.getElem_toArray, List.getElem_cons_zero, List.getElem_cons_succ]
  refine mix.D_takeT (i := 1) (v := ?_) rfl (by kernel_rfl) (by kernel_rfl) (fun _ _ _ h => h) (Or.inl ⟨by rfl, ?_⟩) hS0 ?_
  rotate_left
  · intro w' hSw
    have y0 := (hSw.cell (p := ⟨w.heap.size, 0, none⟩) lb6).trans x0
    have y1 := (hSw.cell (p := ⟨w.heap.size, 1, none⟩) lb6).trans x1
    have y2 := (hSw.cell (p := ⟨w.heap.size, 2, none⟩) lb6).trans x2
    have y3 := (hSw.cell (p := ⟨w.heap.size, 3, none⟩) lb6).trans x3
    have y4 := (hSw.cell (p := ⟨w.heap.size, 4, none⟩) lb6).trans x4
    have y5 := (hSw.cell (p := ⟨w.heap.size, 5, none⟩) lb6).trans x5
    have y6 := (hSw.cell (p := ⟨w.heap.size, 6, none⟩) lb6).trans x6
    have y7 := (hSw.cell (p := ⟨w.heap.size, 7, none⟩) lb6).trans x7
    have y8 := (hSw.cell (p := ⟨w.heap.size, 8, none⟩) lb6).trans x8
    have y9 := (hSw.cell (p := ⟨w.heap.size + 1, 2, none⟩) lo6).trans o2
    have y10 := (hSw.cell (p := ⟨w5.heap.size, 0, none⟩) lA6).trans a0
    have y11 := (hSw.cell (p := ⟨w5.heap.size, 1, none⟩) lA6).trans a1
    try simp only [List.getElem_toArray, List.getElem_cons_zero, List.getElem_cons_succ]
    go_simp
    exact rfl
  try simp only [Act.put, List.setIfInBounds_toArray, List.set_cons_zero, List.set_cons_succ, List.getElem_toArray, List.getElem_cons_zero, List.getElem_cons_succ]
  refine mix.D_takeT (i := 2) (v := ?_) rfl (by kernel_rfl) (by kernel_rfl) (fun _ _ _ h => h) (Or.inl ⟨by rfl, ?_⟩) hS0 ?_
  rotate_left
  · intro w' hSw
    have y0 := (hSw.cell (p := ⟨w.heap.size, 0, none⟩) lb6).trans x0
    have y1 := (hSw.cell (p := ⟨w.heap.size, 1, none⟩) lb6).trans x1
    have y2 := (hSw.cell (p := ⟨w.heap.size, 2, none⟩) lb6).trans x2
    have y3 := (hSw.cell (p := ⟨w.heap.size, 3, none⟩) lb6).trans x3
    have y4 := (hSw.cell (p := ⟨w.heap.size, 4, none⟩) lb6).trans x4
    have y5 := (hSw.cell (p := ⟨w.heap.size, 5, none⟩) lb6).trans x5
    have y6 := (hSw.cell (p := ⟨w.heap.size, 6, none⟩) lb6).trans x6
    have y7 := (hSw.cell (p := ⟨w.heap.size, 7, none⟩) lb6).trans x7
    have y8 := (hSw.cell (p := ⟨w.heap.size, 8, none⟩) lb6).trans x8
    have y9 := (hSw.cell (p := ⟨w.heap.size + 1, 2, none⟩) lo6).trans o2
    have y10 := (hSw.cell (p := ⟨w5.heap.size, 0, none⟩) lA6).trans a0
    have y11 := (hSw.cell (p := ⟨w5.heap.size, 1, none⟩) lA6).trans a1
    try simp only [List.getElem_toArray, List.getElem_cons_zero, List.getElem_cons_succ]
    go_simp
    exact rfl
  try simp only [Act.put, List.setIfInBounds_toArray, List.set_cons_zero, List.set_cons_succ, List.getElem_toArray, List.getElem_cons_zero, List.getElem_cons_succ]
  refine mix.D_takeT (i := 3) (v := ?_) rfl (by kernel_rfl) (by kernel_rfl) (fun _ _ _ h => h) (Or.inl ⟨by rfl, ?_⟩) hS0 ?_
  rotate_left
  · intro w' hSw
    have y0 := (hSw.cell (p := ⟨w.heap.size, 0, none⟩) lb6).trans x0
    have y1 := (hSw.cell (p := ⟨w.heap.size, 1, none⟩) lb6).trans x1
    have y2 := (hSw.cell (p := ⟨w.heap.size, 2, none⟩) lb6).trans x2
    have y3 := (hSw.cell (p := ⟨w.heap.size, 3, none⟩) lb6).trans x3
    have y4 := (hSw.cell (p := ⟨w.heap.size, 4, none⟩) lb6).trans x4
    have y5 := (hSw.cell (p := ⟨w.heap.size, 5, none⟩) lb6).trans x5
    have y6 := (hSw.cell (p := ⟨w.heap.size, 6, none⟩) lb6).trans x6
    have y7 := (hSw.cell (p := ⟨w.heap.size, 7, none⟩) lb6).trans x7
    have y8 := (hSw.cell (p := ⟨w.heap.size, 8, none⟩) lb6).trans x8
    have y9 := (hSw.cell (p := ⟨w.heap.size + 1, 2, none⟩) lo6).trans o2
    have y10 := (hSw.cell (p := ⟨w5.heap.size, 0, none⟩) lA6).trans a0
    have y11 := (hSw.cell (p := ⟨w5.heap.size, 1, none⟩) lA6).trans a1
    try simp only [List.getElem_toArray, List.getElem_cons_zero, List.getElem_cons_succ]
    go_simp
    exact rfl
  try simp only [Act.put, List.setIfInBounds_toArray, List.set_cons_zero, List.set_cons_succ, List.getElem_toArray, List.getElem_cons_zero, List.getElem_cons_succ]
  refine mix.D_takeT (i := 4) (v := ?_) rfl (by kernel_rfl) (by kernel_rfl) (fun _ _ _ h => h) (Or.inl ⟨by rfl, ?_⟩) hS0 ?_
  rotate_left
  · intro w' hSw
    have y0 := (hSw.cell (p := ⟨w.heap.size, 0, none⟩) lb6).trans x0
    have y1 := (hSw.cell (p := ⟨w.heap.size, 1, none⟩) lb6).trans x1
    have y2 := (hSw.cell (p := ⟨w.heap.size, 2, none⟩) lb6).trans x2
    have y3 := (hSw.cell (p := ⟨w.heap.size, 3, none⟩) lb6).trans x3
    have y4 := (hSw.cell (p := ⟨w.heap.size, 4, none⟩) lb6).trans x4
    have y5 := (hSw.cell (p := ⟨w.heap.size, 5, none⟩) lb6).trans x5
    have y6 := (hSw.cell (p := ⟨w.heap.size, 6, none⟩) lb6).trans x6
    have y7 := (hSw.cell (p := ⟨w.heap.size, 7, none⟩) lb6).trans x7
    have y8 := (hSw.cell (p := ⟨w.heap.size, 8, none⟩) lb6).trans x8
    have y9 := (hSw.cell (p := ⟨w.heap.size + 1, 2, none⟩) lo6).trans o2
    have y10 := (hSw.cell (p := ⟨w5.heap.size, 0, none⟩) lA6).trans a0
    have y11 := (hSw.cell (p := ⟨w5.heap.size, 1, none⟩) lA6).trans a1
    try simp only [List.getElem_toArray, List.getElem_cons_zero, List.getElem_cons_succ]
    go_simp
    exact rfl
  try simp only [Act.put, List.setIfInBounds_toArray, List.set_cons_zero, List.set_cons_succ, List.getElem_toArray, List.getElem_cons_zero, List.getElem_cons_succ]
  refine mix.D_takeT (i := 5) (v := ?_) rfl (by kernel_rfl) (by kernel_rfl) (fun _ _ _ h => h) (Or.inl ⟨by rfl, ?_⟩) hS0 ?_
  rotate_left
  · intro w' hSw
    have y0 := (hSw.cell (p := ⟨w.heap.size, 0, none⟩) lb6).trans x0
    have y1 := (hSw.cell (p := ⟨w.heap.size, 1, none⟩) lb6).trans x1
    have y2 := (hSw.cell (p := ⟨w.heap.size, 2, none⟩) lb6).trans x2
    have y3 := (hSw.cell (p := ⟨w.heap.size, 3, none⟩) lb6).trans x3
    have y4 := (hSw.cell (p := ⟨w.heap.size, 4, none⟩) lb6).trans x4
    have y5 := (hSw.cell (p := ⟨w.heap.size, 5, none⟩) lb6).trans x5
    have y6 := (hSw.cell (p := ⟨w.heap.size, 6, none⟩) lb6).trans x6
    have y7 := (hSw.cell (p := ⟨w.heap.size, 7, none⟩) lb6).trans x7
    have y8 := (hSw.cell (p := ⟨w.heap.size, 8, none⟩) lb6).trans x8
    have y9 := (hSw.cell (p := ⟨w.heap.size + 1, 2, none⟩) lo6).trans o2
    have y10 := (hSw.cell (p := ⟨w5.heap.size, 0, none⟩) lA6).trans a0
    have y11 := (hSw.cell (p := ⟨w5.heap.size, 1, none⟩) lA6).trans a1
    try simp only [List.getElem_toArray, List.getElem_cons_zero, List.getElem_cons_succ]
    go_simp
    exact rfl
  try simp only [Act.put, List.setIfInBounds_toArray, List.set_cons_zero, List.set_cons_succ, List.getElem_toArray, List.getElem_cons_zero, List.getElem_cons_succ]
  refine mix.D_takeT (i := 7) (v := ?_) rfl (by kernel_rfl) (by kernel_rfl) (fun _ _ _ h => h) (Or.inl ⟨by rfl, ?_⟩) hS0 ?_
  rotate_left
  · intro w' hSw
    have y0 := (hSw.cell (p := ⟨w.heap.size, 0, none⟩) lb6).trans x0
    have y1 := (hSw.cell (p := ⟨w.heap.size, 1, none⟩) lb6).trans x1
    have y2 := (hSw.cell (p := ⟨w.heap.size, 2, none⟩) lb6).trans x2
    have y3 := (hSw.cell (p := ⟨w.heap.size, 3, none⟩) lb6).trans x3
    have y4 := (hSw.cell (p := ⟨w.heap.size, 4, none⟩) lb6).trans x4
    have y5 := (hSw.cell (p := ⟨w.heap.size, 5, none⟩) lb6).trans x5
    have y6 := (hSw.cell (p := ⟨w.heap.size, 6, none⟩) lb6).trans x6
    have y7 := (hSw.cell (p := ⟨w.heap.size, 7, none⟩) lb6).trans x7
    have y8 := (hSw.cell (p := ⟨w.heap.size, 8, none⟩) lb6).trans x8
    have y9 := (hSw.cell (p := ⟨w.heap.size + 1, 2, none⟩) lo6).trans o2
    have y10 := (hSw.cell (p := ⟨w5.heap.size, 0, none⟩) lA6).trans a0
    have y11 := (hSw.cell (p := ⟨w5.heap.size, 1, none⟩) lA6).trans a1
    try simp only [List.getElem_toArray, List.getElem_cons_zero, List.getElem_cons_succ]
    go_simp
    exact rfl
  try simp only [Act.put, List.setIfInBounds_toArray, List.set_cons_zero, List.set_cons_succ, List.getElem_toArray, List.getElem_cons_zero, List.getElem_cons_succ]
  refine mix.D_takeT (i := 8) (v := ?_) rfl (by kernel_rfl) (by kernel_rfl) (fun _ _ _ h => h) (Or.inl ⟨by rfl, ?_⟩) hS0 ?_
  rotate_left
  · intro w' hSw
    have y0 := (hSw.cell (p := ⟨w.heap.size, 0, none⟩) lb6).trans x0
    have y1 := (hSw.cell (p := ⟨w.heap.size, 1, none⟩) lb6).trans x1
    have y2 := (hSw.cell (p := ⟨w.heap.size, 2, none⟩) lb6).trans x2
    have y3 := (hSw.cell (p := ⟨w.heap.size, 3, none⟩) lb6).trans x3
    have y4 := (hSw.cell (p := ⟨w.heap.size, 4, none⟩) lb6).trans x4
    have y5 := (hSw.cell (p := ⟨w.heap.size, 5, none⟩) lb6).trans x5
    have y6 := (hSw.cell (p := ⟨w.heap.size, 6, none⟩) lb6).trans x6
    have y7 := (hSw.cell (p := ⟨w.heap.size, 7, none⟩) lb6).trans x7
    have y8 := (hSw.cell (p := ⟨w.heap.size, 8, none⟩) lb6).trans x8
    have y9 := (hSw.cell (p := ⟨w.heap.size + 1, 2, none⟩) lo6).trans o2
    have y10 := (hSw.cell (p := ⟨w5.heap.size, 0, none⟩) lA6).trans a0
    have y11 := (hSw.cell (p := ⟨w5.heap.size, 1, none⟩) lA6).trans a1
    try simp only [List.getElem_toArray, List.getElem_cons_zero, List.getElem_cons_succ]
    go_simp
    exact rfl
  try simp only [Act.put, List.setIfInBounds_toArray, List.set_cons_zero, List.set_cons_succ, List.getElem_toArray, List.getElem_cons_zero, List.getElem_cons_succ]
  refine mix.D_takeT (i := 9) (v := ?_) rfl (by kernel_rfl) (by kernel_rfl) (fun _ _ _ h => h) (Or.inl ⟨by rfl, ?_⟩) hS0 ?_
  rotate_left
  · intro w' hSw
    have y0 := (hSw.cell (p := ⟨w.heap.size, 0, none⟩) lb6).trans x0
    have y1 := (hSw.cell (p := ⟨w.heap.size, 1, none⟩) lb6).trans x1
    have y2 := (hSw.cell (p := ⟨w.heap.size, 2, none⟩) lb6).trans x2
    have y3 := (hSw.cell (p := ⟨w.heap.size, 3, none⟩) lb6).trans x3
    have y4 := (hSw.cell (p := ⟨w.heap.size, 4, none⟩) lb6).trans x4
    have y5 := (hSw.cell (p := ⟨w.heap.size, 5, none⟩) lb6).trans x5
    have y6 := (hSw.cell (p := ⟨w.heap.size, 6, none⟩) lb6).trans x6
    have y7 := (hSw.cell (p := ⟨w.heap.size, 7, none⟩) lb6).trans x7
    have y8 := (hSw.cell (p := ⟨w.heap.size, 8, none⟩) lb6).trans x8
    have y9 := (hSw.cell (p := ⟨w.heap.size + 1, 2, none⟩) lo6).trans o2
    have y10 := (hSw.cell (p := ⟨w5.heap.size, 0, none⟩) lA6).trans a0
    have y11 := (hSw.cell (p := ⟨w5.heap.size, 1, none⟩) lA6).trans a1
    try simp only [List.getElem_toArray, List.getElem_cons_zero, List.getElem_cons_succ]
    go_simp
    exact rfl
  try simp only [Act.put, List.setIfInBounds_toArray, List.set_cons_zero, List.set_cons_succ, List.getElem_toArray, List.getElem_cons_zero, List.getElem_cons_succ]
  refine mix.D_takeT (i := 10) (v := ?_) rfl (by kernel_rfl) (by kernel_rfl) (fun _ _ _ h => h) (Or.inl ⟨by rfl, ?_⟩) hS0 ?_
  rotate_left
  · intro w' hSw
    have y0 := (hSw.cell (p := ⟨w.heap.size, 0, none⟩) lb6).trans x0
    have y1 := (hSw.cell (p := ⟨w.heap.size, 1, none⟩) lb6).trans x1
    have y2 := (hSw.cell (p := ⟨w.heap.size, 2, none⟩) lb6).trans x2
    have y3 := (hSw.cell (p := ⟨w.heap.size, 3, none⟩) lb6).trans x3
    have y4 := (hSw.cell (p := ⟨w.heap.size, 4, none⟩) lb6).trans x4
    have y5 := (hSw.cell (p := ⟨w.heap.size, 5, none⟩) lb6).trans x5
    have y6 := (hSw.cell (p := ⟨w.heap.size, 6, none⟩) lb6).trans x6
    have y7 := (hSw.cell (p := ⟨w.heap.size, 7, none⟩) lb6).trans x7
    have y8 := (hSw.cell (p := ⟨w.heap.size, 8, none⟩) lb6).trans x8
    have y9 := (hSw.cell (p := ⟨w.heap.size + 1, 2, none⟩) lo6).trans o2
    have y10 := (hSw.cell (p := ⟨w5.heap.size, 0, none⟩) lA6).trans a0
    have y11 := (hSw.cell (p := ⟨w5.heap.size, 1, none⟩) lA6).trans a1
    try simp only [List.getElem_toArray, List.getElem_cons_zero, List.getElem_cons_succ]
    go_simp
    exact rfl
  try simp only [Act.put, List.setIfInBounds_toArray, List.set_cons_zero, List.set_cons_succ, List.getElem_toArray, List.getElem_cons_zero, List.getElem_cons_succ]
  refine mix.D_op (k := 6) rfl rfl (by kernel_rfl) (fun K' hK => ?_)
  simp only [List.getElem_toArray, List.getElem_cons_zero, List.getElem_cons_succ]
  go_wp2_with fail
  refine (with_any es A c (⟨r0.s, r0.k, AX, cX⟩ : E) _ (hR8.now hS0).es_.es hlen).mono ?_
  rintro e wb1 ⟨vW, rfl, hs1, hrW1, hoW1⟩
  obtain ⟨AW9, nW9, cW9, rfl⟩ := row_shape hrW1
  have zc1 := vers.lay (show w6.heap.size ≤ w6d.heap.size from hS0.size)
  have hb1 : Below w6.heap.size w6 wb1 := hS0.trans (hs1.mono hS0.size)
  refine hK.out _ _ (fun _ => hb1) ?_
  clear hK K'
  try simp only [Act.put, List.setIfInBounds_toArray, List.set_cons_zero, List.set_cons_succ]
  refine mix.D_op (k := 11) rfl rfl (by kernel_rfl) (fun K' hK => ?_)
  simp only [List.getElem_toArray, List.getElem_cons_zero, List.getElem_cons_succ]
  go_wp2_with fail
  refine (insert_lo (.slice vA vn vc) 0 P o.v _ (hR8.now hb1).txt.txt hPl).mono ?_
  rintro e wb2 ⟨vT, rfl, hs2, hT2⟩
  obtain ⟨AT9, nT9, cT9, rfl⟩ := (TxF.of hT2).shape
  have zt2 := vers.lay (show w6.heap.size ≤ wb1.heap.size from hb1.size)
  have hrW2 := row_below hrW1 hs2
  have hb2 : Below w6.heap.size w6 wb2 := hb1.trans (hs2.mono hb1.size)
  refine hK.out _ _ (fun _ => hb2) ?_
  clear hK K'
  try simp only [Act.put, List.setIfInBounds_toArray, List.set_cons_zero, List.set_cons_succ]
  refine mix.D_takeT (i := 12) (v := ?_) rfl (by kernel_rfl) (by kernel_rfl) (fun _ _ _ h => h) (Or.inl ⟨by rfl, ?_⟩) hb2 ?_
  rotate_left
  · intro w' hSw
    have y0 := (hSw.cell (p := ⟨w.heap.size, 0, none⟩) lb6).trans x0
    have y1 := (hSw.cell (p := ⟨w.heap.size, 1, none⟩) lb6).trans x1
    have y2 := (hSw.cell (p := ⟨w.heap.size, 2, none⟩) lb6).trans x2
    have y3 := (hSw.cell (p := ⟨w.heap.size, 3, none⟩) lb6).trans x3
    have y4 := (hSw.cell (p := ⟨w.heap.size, 4, none⟩) lb6).trans x4
    have y5 := (hSw.cell (p := ⟨w.heap.size, 5, none⟩) lb6).trans x5
    have y6 := (hSw.cell (p := ⟨w.heap.size, 6, none⟩) lb6).trans x6
    have y7 := (hSw.cell (p := ⟨w.heap.size, 7, none⟩) lb6).trans x7
    have y8 := (hSw.cell (p := ⟨w.heap.size, 8, none⟩) lb6).trans x8
    have y9 := (hSw.cell (p := ⟨w.heap.size + 1, 2, none⟩) lo6).trans o2
    have y10 := (hSw.cell (p := ⟨w5.heap.size, 0, none⟩) lA6).trans a0
    have y11 := (hSw.cell (p := ⟨w5.heap.size, 1, none⟩) lA6).trans a1
    try simp only [List.getElem_toArray, List.getElem_cons_zero, List.getElem_cons_succ]
    go_simp
    exact rfl
  try simp only [Act.put, List.setIfInBounds_toArray, List.set_cons_zero, List.set_cons_succ, List.getElem_toArray, List.getElem_cons_zero, List.getElem_cons_succ]
  refine mix.D_op (k := 13) rfl rfl (by kernel_rfl) (fun K' hK => ?_)
  simp only [List.getElem_toArray, List.getElem_cons_zero, List.getElem_cons_succ]
  have kz9 := kz6.below hb2 kz6.lt
  have b9 := b6.trans (hb2.mono b6.size)
  have XF9 := XF6.agree (Agree.of_below hb2 fun g hg => hg.2)
  have hz9 := hb2.size
  obtain ⟨_, n0, n1, n2, n3, n4, n5, n6, n7, n8⟩ := cells9 kz9
  have lz9 := kz9.lt
  have kN := nine_blk kz9 q (.slice AW9 nW9 cW9) (.slice AT9 nT9 cT9)
  have bN := nine_below b9 (B := w.heap.size) (g := w.heap.size + 1 + 1) (by omega) q (.slice AW9 nW9 cW9) (.slice AT9 nT9 cT9)
  have bM := fun (k : Nat) (hk : k ≠ w.heap.size + 1 + 1) => nine_heap wb2 (w.heap.size + 1 + 1) q (.slice AW9 nW9 cW9) (.slice AT9 nT9 cT9) k hk
  have zM := nine_size wb2 (w.heap.size + 1 + 1) q (.slice AW9 nW9 cW9) (.slice AT9 nT9 cT9)
  unfold nine at kN bN bM zM
  have HZM := vers.lay zM
  clear zM
  go_wp2_with fail
  refine hK.out _ _ (fun h => by simp at h) ?_
  clear hK K'
  try simp only [Act.put, List.setIfInBounds_toArray, List.set_cons_zero, List.set_cons_succ]
  generalize (((((((((World.setCell wb2 ⟨w.heap.size + 1 + 1, 0, none⟩ (.int .i64 q.a)).setCell ⟨w.heap.size + 1 + 1, 1, none⟩ (.int .i64 q.b)).setCell ⟨w.heap.size + 1 + 1, 2, none⟩ (.int .i64 q.c)).setCell ⟨w.heap.size + 1 + 1, 3, none⟩ (.int .i64 q.d)).setCell ⟨w.heap.size + 1 + 1, 4, none⟩ (.int .i64 q.e)).setCell ⟨w.heap.size + 1 + 1, 5, none⟩ (.int .i64 q.f)).setCell ⟨w.heap.size + 1 + 1, 6, none⟩ (.int .i64 q.h)).setCell ⟨w.heap.size + 1 + 1, 7, none⟩ (.slice AW9 nW9 cW9)).setCell ⟨w.heap.size + 1 + 1, 8, none⟩ (.slice AT9 nT9 cT9)) = W9 at kN bN bM HZM ⊢
  refine mix.D_op (k := 14) rfl rfl (by kernel_rfl) (fun K' hK => ?_)
  simp only [List.getElem_toArray, List.getElem_cons_zero, List.getElem_cons_succ]
  go_wp2_with fail
  refine hK.out _ _ (fun h => by simp at h) ?_
  clear hK K'
  refine mix.D_done (by kernel_rfl) ?_ _
  obtain ⟨⟨v0, v1, v2, v3, v4, v5, v6, v7, v8⟩, _⟩ := cells9 kN
  have HFIN : Hid (∃ AX9 cX9, Value.slice AW9 nW9 cW9 = .slice AX9 (insE (⟨r0.s, r0.k, AX, cX⟩ : E) (delE es r0.s)).length cX9 ∧ RAt W9 (NewB F w W9) (insE (⟨r0.s, r0.k, AX, cX⟩ : E) (delE es r0.s)) AX9 cX9 (.slice AT9 nT9 cT9) (put L (o.s, r0.k)) (insD (bn o.v) P false)) := vers.lay (by
    have zM := HZM.out
    have hrs := HRR.out
    have h3 := zc1.out
    have h4 := zt2.out
    have hl8 : w.heap.size + 1 + 1 < w6.heap.size := kz6.lt
    obtain ⟨AX9, cX9, eX, hX⟩ := rat_row hR bN hrW2 (fun g hg => by
      have h1 := hoW1 g hg
      have h2 := (hrW2.lt g hg).2
      exact ⟨bM g (by omega), by omega, by omega⟩) (by rw [insE_len]; have := delE_le es r0.s; omega) (fun y hy => by
      rcases insE_mem _ _ _ hy with rfl | hy
      · exact ⟨(XF9.agree (fun g hg => bM g (by omega))).mono (fun g hg => .inr ⟨by omega, by omega⟩), by show r0.s.size ≤ maxLen; rw [hrs]; exact hos⟩
      · have hm := (List.mem_filter.1 hy).1
        exact ⟨((hR.es_.2.2.2.2 y hm).1.agree (Agree.of_below bN hR.flt)).mono (fun g hg => .inl hg), (hR.es_.2.2.2.2 y hm).2⟩) (((TxF.of hT2).agree (fun g hg => bM g (by omega))).mono (fun g hg => .inr ⟨by omega, by omega⟩))
    refine ⟨AX9, cX9, eX, ?_⟩
    rw [insE_pe, delE_pe, hR.pe_] at hX
    have e9 : (pe (⟨r0.s, r0.k, AX, cX⟩ : E)) = (o.s, r0.k) := by show (r0.s, r0.k) = _; rw [hrs]
    rw [e9, hrs] at hX
    rw [hrs]
    exact hX)
  go_wp2_with fail
  obtain ⟨AX9, cX9, eX, hX⟩ := HFIN.out
  refine bodyPost_ret (v := .tuple #[RV q (.slice AW9 nW9 cW9) (.slice AT9 nT9 cT9), .int .i64 0]) (by simp [results, Try.results71, go_sem, v0, v1, v2, v3, v4, v5, v6, v7, v8]) rfl ⟨_, AX9, cX9, _, by rw [eX], bN, hX⟩

set_option maxRecDepth 100000 in
set_option maxHeartbeats 4000000 in
theorem call_put_e (q : Qt) (o : O) (es : List E) (A : Option Addr) (c : Nat) (v : Value) (L : List PB) (P : List (List UInt8)) (w : World) (F : Nat → Prop) (hR : RAt w F es A c v L P) (h1 : rightO q o = 0) (hk3 : o.k ≠ 3) (hk2 : o.k = 2) (hl : (lk L o.s).isSome = true) (hbad : (addP q.a q.b q.c q.d q.e q.f q.h o.s ((lk L o.s).getD []) o.v o.t 1).bad ≠ 0) (hfit : o.v.size ≤ maxLen ∧ o.t.size ≤ maxLen) (hos : o.s.size ≤ maxLen) :
    Calls Try.prog 71 #[RV q (.slice A es.length c) v, .agg #[.int .i64 o.k, .string o.s, .string o.v, .string o.t]] w (CPost w q F L P (addP q.a q.b q.c q.d q.e q.f q.h o.s ((lk L o.s).getD []) o.v o.t 1).bad) := by
  obtain ⟨vA, vn, vc, rfl⟩ := hR.txt.shape
  obtain ⟨rn, rl, HG, HRL⟩ : ∃ rn rl, getP L o.s = (rn, rl, true) ∧ (lk L o.s).getD [] = rl := by
    unfold getP
    cases hll : lk L o.s with
    | none => rw [hll] at hl; cases hl
    | some l => exact ⟨_, _, rfl, rfl⟩
  rw [HRL] at hbad ⊢
  have HBAD := vers.lay hbad
  clear hbad
  have HRS := @addP_name q.a q.b q.c q.d q.e q.f q.h o.s rl o.v o.t 1
  have d3 := eq_no hk3
  have d2 := eq_yes hk2
  clear hk3 hk2 hl HRL
  have kb := ((Blk.new w 66 (RC q (.slice A es.length c) (.slice vA vn vc))).alloc (.cells (oc o) 92)).alloc (.cells Z9 66)
  have ko := (Blk.new (w.alloc (.cells (RC q (.slice A es.length c) (.slice vA vn vc)) 66)) 92 (oc o)).alloc (.cells Z9 66)
  have kz := Blk.new ((w.alloc (.cells (RC q (.slice A es.length c) (.slice vA vn vc)) 66)).alloc (.cells (oc o) 92)) 66 Z9
  simp only [World.size_alloc] at ko kz
  have b0 : Below w.heap.size w (((w.alloc (.cells (RC q (.slice A es.length c) (.slice vA vn vc)) 66)).alloc (.cells (oc o) 92)).alloc (.cells Z9 66)) := (((Below.refl _ _).alloc (Nat.le_refl _) _).alloc (by simp) _).alloc (by simp; omega) _
  go_enter Try.func71, Try.ntmps71
  go_upto_region 1 with (fail)
  generalize ((w.alloc (.cells (RC q (.slice A es.length c) (.slice vA vn vc)) 66)).alloc (.cells (oc o) 92)).alloc (.cells Z9 66) = W at *
  have hf := form_any q o W
  obtain ⟨⟨x0, x1, x2, x3, x4, x5, x6, x7, x8⟩, _⟩ := cells9 kb
  obtain ⟨o0, o1, o2, o3⟩ := ocells ko
  have lb := kb.lt
  have lo := ko.lt
  have lz := kz.lt
  go_wp2_with fail
  refine hf.mono ?_
  rintro e w1 ⟨rfl, hb1⟩
  rw [h1]
  have b1 := b0.trans (hb1.mono b0.size)
  clear x0 x1 x2 x3 x4 x5 x6 x7 x8 o0 o1 o2 o3
  have kb1 := kb.below hb1 kb.lt
  have ko1 := ko.below hb1 ko.lt
  have kz1 := kz.below hb1 kz.lt
  obtain ⟨⟨x0, x1, x2, x3, x4, x5, x6, x7, x8⟩, _⟩ := cells9 kb1
  obtain ⟨o0, o1, o2, o3⟩ := ocells ko1
  have lb1 := kb1.lt
  have lo1 := ko1.lt
  have lz1 := kz1.lt
  clear hf lb lo lz kb ko kz
  have hR1 := hR.now (b1.mono (Nat.le_refl _))
  have hg := refGet_any es A c o.s w1 hR1.es_.es
  rw [hR.pe_, HG] at hg
  clear h1
  go_wp2_with fail
  refine hg.mono ?_
  rintro e w2 ⟨hb2, A2, c2, rfl, hO2⟩
  simp only [] at hO2
  have b2 := b1.trans (hb2.mono b1.size)
  clear x0 x1 x2 x3 x4 x5 x6 x7 x8 o0 o1 o2 o3
  have kb2 := kb1.below hb2 kb1.lt
  have ko2 := ko1.below hb2 ko1.lt
  have kz2 := kz1.below hb2 kz1.lt
  have bY : Below w2.heap.size w2 (w2.alloc (.cells #[.string rn, .slice A2 rl.length c2] 79)) := (Below.refl _ _).alloc (Nat.le_refl _) _
  have kY3 := Blk.new w2 79 #[.string rn, .slice A2 rl.length c2]
  have b3 := b2.trans (bY.mono b2.size)
  have hO3 := hO2.agree (Agree.of_below bY fun g hg => hg.2)
  have hR3 := hR.now b3
  have kb3 := kb2.below bY kb2.lt
  have ko3 := ko2.below bY ko2.lt
  have kz3 := kz2.below bY kz2.lt
  generalize hWY : w2.alloc (.cells #[.string rn, .slice A2 rl.length c2] 79) = w3 at *
  have y0 := kY3.cell 0
  have y1 := kY3.cell 1
  simp only [List.getElem?_toArray, List.getElem?_cons_zero, List.getElem?_cons_succ] at y0 y1
  have f0 := kY3.frozen 0
  have f1 := kY3.frozen 1
  have lY3 := kY3.lt
  clear kb1 ko1 kz1 lb1 lo1 lz1 hg hO2
  obtain ⟨⟨x0, x1, x2, x3, x4, x5, x6, x7, x8⟩, _⟩ := cells9 kb3
  obtain ⟨o0, o1, o2, o3⟩ := ocells ko3
  have lb3 := kb3.lt
  have lo3 := ko3.lt
  have lz3 := kz3.lt
  go_upto_region 12 with (fail)
  have kY4 : Blk (w3.setCell ⟨w2.heap.size, 0, none⟩ (.string o.s)) w2.heap.size 79 #[.string o.s, .slice A2 rl.length c2] := by have := kY3.put 0 (.string o.s); simpa using this
  have hlt2 : w.heap.size + 1 + 1 < w2.heap.size := by have := kb2.lt; have := ko2.lt; have := kz2.lt; omega
  have kb4 := kb3.far (p := ⟨w2.heap.size, 0, none⟩) (by simp; omega) (.string o.s)
  have ko4 := ko3.far (p := ⟨w2.heap.size, 0, none⟩) (by simp; omega) (.string o.s)
  have kz4 := kz3.far (p := ⟨w2.heap.size, 0, none⟩) (by simp; omega) (.string o.s)
  have b4 : Below w.heap.size w (w3.setCell ⟨w2.heap.size, 0, none⟩ (.string o.s)) := b3.setCell (p := ⟨w2.heap.size, 0, none⟩) (by simp; omega) _
  have hV4 : Vs (w3.setCell ⟨w2.heap.size, 0, none⟩ (.string o.s)) (w3.setCell ⟨w2.heap.size, 0, none⟩ (.string o.s)).heap.size rl A2 c2 := (hO3.agree (fun g hg => Below.heap_setCell _ _ _ _ (by simp; omega))).vs.vs
  clear x0 x1 x2 x3 x4 x5 x6 x7 x8 o0 o1 o2 o3 y0 y1 f0 f1 lb3 lo3 lz3 lY3 kb3 ko3 kz3 kY3 hO3 hR3
  generalize w3.setCell ⟨w2.heap.size, 0, none⟩ (.string o.s) = w4 at *
  obtain ⟨⟨x0, x1, x2, x3, x4, x5, x6, x7, x8⟩, _⟩ := cells9 kb4
  obtain ⟨o0, o1, o2, o3⟩ := ocells ko4
  have lb4 := kb4.lt
  have lo4 := ko4.lt
  have lz4 := kz4.lt
  have y0 := kY4.cell 0
  have y1 := kY4.cell 1
  simp only [List.getElem?_toArray, List.getElem?_cons_zero, List.getElem?_cons_succ] at y0 y1
  have lY4 := kY4.lt
  have hp := refPut_any q.a q.b q.c q.d q.e q.f q.h o.s rl A2 c2 o.v o.t w4 hV4 hfit
  generalize addP q.a q.b q.c q.d q.e q.f q.h o.s rl o.v o.t q.e = r0 at *
  go_wp2_with fail
  refine hp.mono ?_
  rintro e w5 ⟨_, _, rfl, hb5, ⟨AX, cX, rfl, hVX, hlX⟩, ⟨AY, cY, rfl, _, _⟩⟩
  have b5 := b4.trans (hb5.mono b4.size)
  have hV5 := hV4.at_world hb5
  clear x0 x1 x2 x3 x4 x5 x6 x7 x8 o0 o1 o2 o3
  clear y0 y1 hp hV4
  have kb5 := kb4.below hb5 kb4.lt
  have ko5 := ko4.below hb5 ko4.lt
  have kz5 := kz4.below hb5 kz4.lt
  have kY5 := kY4.below hb5 kY4.lt
  have bZ : Below w5.heap.size w5 (w5.alloc (.cells #[.string r0.s, .slice AX r0.k.length cX, .slice AY r0.d.length cY, .int .i64 r0.bad] 173)) := (Below.refl _ _).alloc (Nat.le_refl _) _
  have kA6 := Blk.new w5 173 #[.string r0.s, .slice AX r0.k.length cX, .slice AY r0.d.length cY, .int .i64 r0.bad]
  have kb6 := kb5.below bZ kb5.lt
  have ko6 := ko5.below bZ ko5.lt
  have kz6 := kz5.below bZ kz5.lt
  have kY6 := kY5.below bZ kY5.lt
  have b6 := b5.trans (bZ.mono b5.size)
  have hV6 := hV5.at_world bZ
  have hs5 := hb5.size
  have XF6 : VsF (w5.alloc (.cells #[.string r0.s, .slice AX r0.k.length cX, .slice AY r0.d.length cY, .int .i64 r0.bad] 173)) (fun g => w.heap.size + 1 + 1 < g ∧ g < (w5.alloc (.cells #[.string r0.s, .slice AX r0.k.length cX, .slice AY r0.d.length cY, .int .i64 r0.bad] 173)).heap.size) r0.k AX cX := ((hv_vsF hVX hlX).agree (Agree.of_below bZ fun g hg => hg.2)).mono (fun g hg => ⟨by omega, by have := bZ.size; omega⟩)
  generalize hWZ : w5.alloc (.cells #[.string r0.s, .slice AX r0.k.length cX, .slice AY r0.d.length cY, .int .i64 r0.bad] 173) = w6 at *
  obtain ⟨⟨x0, x1, x2, x3, x4, x5, x6, x7, x8⟩, _⟩ := cells9 kb6
  obtain ⟨o0, o1, o2, o3⟩ := ocells ko6
  have lb6 := kb6.lt
  have lo6 := ko6.lt
  have lz6 := kz6.lt
  have y0 := kY6.cell 0
  have y1 := kY6.cell 1
  simp only [List.getElem?_toArray, List.getElem?_cons_zero, List.getElem?_cons_succ] at y0 y1
  have lY6 := kY6.lt
  obtain ⟨a0, a1, a2, a3⟩ := cells4 kA6
  have lA6 := kA6.lt
  have hq := refOver_any q.a q.b q.c q.d q.e q.f q.h o.s rl A2 c2 o.v o.t w6 hV6 hfit
  generalize addP q.a q.b q.c q.d q.e q.f q.h o.s rl o.v o.t 1 = r1 at *
  go_wp2_with fail
  refine hq.mono ?_
  rintro e w7 ⟨_, _, rfl, hb7, ⟨AU, cU, rfl, hVU, hlU⟩, ⟨AW, cW, rfl, _, _⟩⟩
  have b7 := b6.trans (hb7.mono b6.size)
  clear x0 x1 x2 x3 x4 x5 x6 x7 x8 o0 o1 o2 o3
  clear y0 y1 hq a0 a1 a2 a3
  have kb7 := kb6.below hb7 kb6.lt
  have ko7 := ko6.below hb7 ko6.lt
  have kz7 := kz6.below hb7 kz6.lt
  have kA7 := kA6.below hb7 kA6.lt
  obtain ⟨a0, a1, a2, a3⟩ := cells4 kA7
  have fa0 := kA7.frozen 0
  have fa1 := kA7.frozen 1
  have fa2 := kA7.frozen 2
  have fa3 := kA7.frozen 3
  have lA7 := kA7.lt
  have lb7 := kb7.lt
  have lo7 := ko7.lt
  go_upto_region 15 with (fail)
  have kA8 := put4 kA7 (.string r1.s) (.slice AU r1.k.length cU) (.slice AW r1.d.length cW) (.int .i64 r1.bad)
  have hgA : w.heap.size + 1 + 1 < w5.heap.size := by omega
  have bS : Below w5.heap.size w7 ((((w7.setCell ⟨w5.heap.size, 0, none⟩ (.string r1.s)).setCell ⟨w5.heap.size, 1, none⟩ (.slice AU r1.k.length cU)).setCell ⟨w5.heap.size, 2, none⟩ (.slice AW r1.d.length cW)).setCell ⟨w5.heap.size, 3, none⟩ (.int .i64 r1.bad)) := ((((Below.refl _ _).setCell (p := ⟨w5.heap.size, 0, none⟩) (by simp) _).setCell (p := ⟨w5.heap.size, 1, none⟩) (by simp) _).setCell (p := ⟨w5.heap.size, 2, none⟩) (by simp) _).setCell (p := ⟨w5.heap.size, 3, none⟩) (by simp) _
  have XF8 : VsF ((((w7.setCell ⟨w5.heap.size, 0, none⟩ (.string r1.s)).setCell ⟨w5.heap.size, 1, none⟩ (.slice AU r1.k.length cU)).setCell ⟨w5.heap.size, 2, none⟩ (.slice AW r1.d.length cW)).setCell ⟨w5.heap.size, 3, none⟩ (.int .i64 r1.bad)) (fun g => w.heap.size + 1 + 1 < g ∧ g < ((((w7.setCell ⟨w5.heap.size, 0, none⟩ (.string r1.s)).setCell ⟨w5.heap.size, 1, none⟩ (.slice AU r1.k.length cU)).setCell ⟨w5.heap.size, 2, none⟩ (.slice AW r1.d.length cW)).setCell ⟨w5.heap.size, 3, none⟩ (.int .i64 r1.bad)).heap.size) r1.k AU cU := by
    obtain ⟨A', c', e', hv, hl'⟩ := (show HV w6.heap.size w7 r1.k (.slice AU r1.k.length cU) from ⟨AU, cU, rfl, hVU, hlU⟩).setCell (p := ⟨w5.heap.size, 0, none⟩) (by simpa using lA6) (.string r1.s) |>.setCell (p := ⟨w5.heap.size, 1, none⟩) (by simpa using lA6) (.slice AU r1.k.length cU) |>.setCell (p := ⟨w5.heap.size, 2, none⟩) (by simpa using lA6) (.slice AW r1.d.length cW) |>.setCell (p := ⟨w5.heap.size, 3, none⟩) (by simpa using lA6) (.int .i64 r1.bad)
    cases e'
    exact (hv_vsF hv hl').mono (fun g hg => ⟨by omega, hg.2⟩)
  have kb8 := kb7.below bS (by omega)
  have ko8 := ko7.below bS (by omega)
  have kz8 := kz7.below bS (by omega)
  have b8 := b7.trans (bS.mono (by omega))
  clear a0 a1 a2 a3 fa0 fa1 fa2 fa3 lA7 lb7 lo7
  generalize (((w7.setCell ⟨w5.heap.size, 0, none⟩ (.string r1.s)).setCell ⟨w5.heap.size, 1, none⟩ (.slice AU r1.k.length cU)).setCell ⟨w5.heap.size, 2, none⟩ (.slice AW r1.d.length cW)).setCell ⟨w5.heap.size, 3, none⟩ (.int .i64 r1.bad) = w8 at *
  obtain ⟨⟨x0, x1, x2, x3, x4, x5, x6, x7, x8⟩, _⟩ := cells9 kb8
  obtain ⟨o0, o1, o2, o3⟩ := ocells ko8
  have lb8 := kb8.lt
  have lo8 := ko8.lt
  have lz8 := kz8.lt
  obtain ⟨a0, a1, a2, a3⟩ := cells4 kA8
  have lA8 := kA8.lt
  have hR8 := hR.now b8
  have d9 := ne_yes HBAD.out
  go_wp2_with fail
  have hS1 : Below w8.heap.size w8 w8.drew := (Below.refl _ _).drew
  have hS0 : Keep (fun g => g = w.heap.size + 1 + 1) w8 w8.drew := Keep.of_below hS1
  refine mix.region_D (fun w' => Keep (fun g => g = w.heap.size + 1 + 1) w8 w') (fun j => j == 4) (by kernel_rfl) ?_
  generalize w8.drew = w8d at hS0 hS1 ⊢
  refine mix.D_takeT (i := 0) (v := ?_) rfl (by kernel_rfl) (by kernel_rfl) (fun _ _ _ h => h) (Or.inl ⟨by rfl, ?_⟩) hS0 ?_
  rotate_left
  · intro w' hSw
    have y0 := (hSw.cell (p := ⟨w.heap.size, 0, none⟩) lb8 (by show ¬ (w.heap.size = w.heap.size + 1 + 1); omega)).trans x0
    have y1 := (hSw.cell (p := ⟨w.heap.size, 1, none⟩) lb8 (by show ¬ (w.heap.size = w.heap.size + 1 + 1); omega)).trans x1
    have y2 := (hSw.cell (p := ⟨w.heap.size, 2, none⟩) lb8 (by show ¬ (w.heap.size = w.heap.size + 1 + 1); omega)).trans x2
    have y3 := (hSw.cell (p := ⟨w.heap.size, 3, none⟩) lb8 (by show ¬ (w.heap.size = w.heap.size + 1 + 1); omega)).trans x3
    have y4 := (hSw.cell (p := ⟨w.heap.size, 4, none⟩) lb8 (by show ¬ (w.heap.size = w.heap.size + 1 + 1); omega)).trans x4
    have y5 := (hSw.cell (p := ⟨w.heap.size, 5, none⟩) lb8 (by show ¬ (w.heap.size = w.heap.size + 1 + 1); omega)).trans x5
    have y6 := (hSw.cell (p := ⟨w.heap.size, 6, none⟩) lb8 (by show ¬ (w.heap.size = w.heap.size + 1 + 1); omega)).trans x6
    have y7 := (hSw.cell (p := ⟨w.heap.size, 7, none⟩) lb8 (by show ¬ (w.heap.size = w.heap.size + 1 + 1); omega)).trans x7
    have y8 := (hSw.cell (p := ⟨w.heap.size, 8, none⟩) lb8 (by show ¬ (w.heap.size = w.heap.size + 1 + 1); omega)).trans x8
    have y9 := (hSw.cell (p := ⟨w5.heap.size, 3, none⟩) lA8 (by show ¬ (w5.heap.size = w.heap.size + 1 + 1); omega)).trans a3
    try simp only [List.getElem_toArray, List.getElem_cons_zero, List.getElem_cons_succ]
    go_simp
    exact rfl
  try simp only [Act.put, List.setIfInBounds_toArray, List.set_cons_zero, List.set_cons_succ, List.getElem_toArray, List.getElem_cons_zero, List.getElem_cons_succ]
  refine mix.D_takeT (i := 1) (v := ?_) rfl (by kernel_rfl) (by kernel_rfl) (fun _ _ _ h => h) (Or.inl ⟨by rfl, ?_⟩) hS0 ?_
  rotate_left
  · intro w' hSw
    have y0 := (hSw.cell (p := ⟨w.heap.size, 0, none⟩) lb8 (by show ¬ (w.heap.size = w.heap.size + 1 + 1); omega)).trans x0
    have y1 := (hSw.cell (p := ⟨w.heap.size, 1, none⟩) lb8 (by show ¬ (w.heap.size = w.heap.size + 1 + 1); omega)).trans x1
    have y2 := (hSw.cell (p := ⟨w.heap.size, 2, none⟩) lb8 (by show ¬ (w.heap.size = w.heap.size + 1 + 1); omega)).trans x2
    have y3 := (hSw.cell (p := ⟨w.heap.size, 3, none⟩) lb8 (by show ¬ (w.heap.size = w.heap.size + 1 + 1); omega)).trans x3
    have y4 := (hSw.cell (p := ⟨w.heap.size, 4, none⟩) lb8 (by show ¬ (w.heap.size = w.heap.size + 1 + 1); omega)).trans x4
    have y5 := (hSw.cell (p := ⟨w.heap.size, 5, none⟩) lb8 (by show ¬ (w.heap.size = w.heap.size + 1 + 1); omega)).trans x5
    have y6 := (hSw.cell (p := ⟨w.heap.size, 6, none⟩) lb8 (by show ¬ (w.heap.size = w.heap.size + 1 + 1); omega)).trans x6
    have y7 := (hSw.cell (p := ⟨w.heap.size, 7, none⟩) lb8 (by show ¬ (w.heap.size = w.heap.size + 1 + 1); omega)).trans x7
    have y8 := (hSw.cell (p := ⟨w.heap.size, 8, none⟩) lb8 (by show ¬ (w.heap.size = w.heap.size + 1 + 1); omega)).trans x8
    have y9 := (hSw.cell (p := ⟨w5.heap.size, 3, none⟩) lA8 (by show ¬ (w5.heap.size = w.heap.size + 1 + 1); omega)).trans a3
    try simp only [List.getElem_toArray, List.getElem_cons_zero, List.getElem_cons_succ]
    go_simp
    exact rfl
  try simp only [Act.put, List.setIfInBounds_toArray, List.set_cons_zero, List.set_cons_succ, List.getElem_toArray, List.getElem_cons_zero, List.getElem_cons_succ]
  refine mix.D_takeT (i := 2) (v := ?_) rfl (by kernel_rfl) (by kernel_rfl) (fun _ _ _ h => h) (Or.inl ⟨by rfl, ?_⟩) hS0 ?_
  rotate_left
  · intro w' hSw
    have y0 := (hSw.cell (p := ⟨w.heap.size, 0, none⟩) lb8 (by show ¬ (w.heap.size = w.heap.size + 1 + 1); omega)).trans x0
    have y1 := (hSw.cell (p := ⟨w.heap.size, 1, none⟩) lb8 (by show ¬ (w.heap.size = w.heap.size + 1 + 1); omega)).trans x1
    have y2 := (hSw.cell (p := ⟨w.heap.size, 2, none⟩) lb8 (by show ¬ (w.heap.size = w.heap.size + 1 + 1); omega)).trans x2
    have y3 := (hSw.cell (p := ⟨w.heap.size, 3, none⟩) lb8 (by show ¬ (w.heap.size = w.heap.size + 1 + 1); omega)).trans x3
    have y4 := (hSw.cell (p := ⟨w.heap.size, 4, none⟩) lb8 (by show ¬ (w.heap.size = w.heap.size + 1 + 1); omega)).trans x4
    have y5 := (hSw.cell (p := ⟨w.heap.size, 5, none⟩) lb8 (by show ¬ (w.heap.size = w.heap.size + 1 + 1); omega)).trans x5
    have y6 := (hSw.cell (p := ⟨w.heap.size, 6, none⟩) lb8 (by show ¬ (w.heap.size = w.heap.size + 1 + 1); omega)).trans x6
    have y7 := (hSw.cell (p := ⟨w.heap.size, 7, none⟩) lb8 (by show ¬ (w.heap.size = w.heap.size + 1 + 1); omega)).trans x7
    have y8 := (hSw.cell (p := ⟨w.heap.size, 8, none⟩) lb8 (by show ¬ (w.heap.size = w.heap.size + 1 + 1); omega)).trans x8
    have y9 := (hSw.cell (p := ⟨w5.heap.size, 3, none⟩) lA8 (by show ¬ (w5.heap.size = w.heap.size + 1 + 1); omega)).trans a3
    try simp only [List.getElem_toArray, List.getElem_cons_zero, List.getElem_cons_succ]
    go_simp
    exact rfl
  try simp only [Act.put, List.setIfInBounds_toArray, List.set_cons_zero, List.set_cons_succ, List.getElem_toArray, List.getElem_cons_zero, List.getElem_cons_succ]
  refine mix.D_op (k := 3) rfl rfl (by kernel_rfl) (fun K' hK => ?_)
  simp only [List.getElem_toArray, List.getElem_cons_zero, List.getElem_cons_succ]
  have kz9 := kz8.below hS1 kz8.lt
  have b9 := b8.trans (hS1.mono b8.size)
  obtain ⟨_, n0, n1, n2, n3, n4, n5, n6, n7, n8⟩ := cells9 kz9
  have lz9 := kz9.lt
  have kKeep := nine_keep hS1 (w.heap.size + 1 + 1) q (.slice A es.length c) (.slice vA vn vc)
  have kN := nine_blk kz9 q (.slice A es.length c) (.slice vA vn vc)
  have bN := nine_below b9 (B := w.heap.size) (g := w.heap.size + 1 + 1) (by omega) q (.slice A es.length c) (.slice vA vn vc)
  unfold nine at kN bN kKeep
  go_wp2_with fail
  refine hK.out _ _ (fun _ => kKeep) ?_
  clear hK K'
  try simp only [Act.put, List.setIfInBounds_toArray, List.set_cons_zero, List.set_cons_succ]
  generalize (((((((((World.setCell w8d ⟨w.heap.size + 1 + 1, 0, none⟩ (.int .i64 q.a)).setCell ⟨w.heap.size + 1 + 1, 1, none⟩ (.int .i64 q.b)).setCell ⟨w.heap.size + 1 + 1, 2, none⟩ (.int .i64 q.c)).setCell ⟨w.heap.size + 1 + 1, 3, none⟩ (.int .i64 q.d)).setCell ⟨w.heap.size + 1 + 1, 4, none⟩ (.int .i64 q.e)).setCell ⟨w.heap.size + 1 + 1, 5, none⟩ (.int .i64 q.f)).setCell ⟨w.heap.size + 1 + 1, 6, none⟩ (.int .i64 q.h)).setCell ⟨w.heap.size + 1 + 1, 7, none⟩ (.slice A es.length c)).setCell ⟨w.heap.size + 1 + 1, 8, none⟩ (.slice vA vn vc)) = W9 at kN bN kKeep ⊢
  refine mix.D_op (k := 4) rfl rfl (by kernel_rfl) (fun K' hK => ?_)
  simp only [List.getElem_toArray, List.getElem_cons_zero, List.getElem_cons_succ]
  go_wp2_with fail
  refine hK.out _ _ (fun h => by simp at h) ?_
  clear hK K'
  refine mix.D_done (by kernel_rfl) ?_ _
  obtain ⟨⟨v0, v1, v2, v3, v4, v5, v6, v7, v8⟩, _⟩ := cells9 kN
  go_wp2_with fail
  refine bodyPost_ret (v := .tuple #[RV q (.slice A es.length c) (.slice vA vn vc), .int .i64 r1.bad]) (by simp [results, Try.results71, go_sem, v0, v1, v2, v3, v4, v5, v6, v7, v8]) rfl ⟨es, A, c, (.slice vA vn vc), rfl, bN, hR.new bN⟩

set_option maxRecDepth 100000 in
set_option maxHeartbeats 4000000 in
theorem call_put_f (q : Qt) (o : O) (es : List E) (A : Option Addr) (c : Nat) (v : Value) (L : List PB) (P : List (List UInt8)) (w : World) (F : Nat → Prop) (hR : RAt w F es A c v L P) (h1 : rightO q o = 0) (hk3 : o.k ≠ 3) (hk2 : o.k = 2) (hl : (lk L o.s).isSome = false) (hf : (L.length : Int) < q.a) (hbad : (addP q.a q.b q.c q.d q.e q.f q.h o.s ((lk L o.s).getD []) o.v o.t 1).bad ≠ 0) (hfit : o.v.size ≤ maxLen ∧ o.t.size ≤ maxLen) (hos : o.s.size ≤ maxLen) :
    Calls Try.prog 71 #[RV q (.slice A es.length c) v, .agg #[.int .i64 o.k, .string o.s, .string o.v, .string o.t]] w (CPost w q F L P (addP q.a q.b q.c q.d q.e q.f q.h o.s ((lk L o.s).getD []) o.v o.t 1).bad) := by
  obtain ⟨vA, vn, vc, rfl⟩ := hR.txt.shape
  obtain ⟨rn, rl, HG, HRL⟩ : ∃ rn rl, getP L o.s = (rn, rl, false) ∧ (lk L o.s).getD [] = rl := by
    unfold getP
    cases hll : lk L o.s with
    | none => exact ⟨_, _, rfl, rfl⟩
    | some l => rw [hll] at hl; cases hl
  rw [HRL] at hbad ⊢
  have HBAD := vers.lay hbad
  clear hbad
  have HRS := @addP_name q.a q.b q.c q.d q.e q.f q.h o.s rl o.v o.t 1
  have d3 := eq_no hk3
  have d2 := eq_yes hk2
  have hel : L.length = es.length := by rw [← hR.pe_, List.length_map]
  have d4 : decide (q.a ≤ (es.length : Int)) = false := decide_eq_false (by omega)
  clear hel hf
  clear hk3 hk2 hl HRL
  have kb := ((Blk.new w 66 (RC q (.slice A es.length c) (.slice vA vn vc))).alloc (.cells (oc o) 92)).alloc (.cells Z9 66)
  have ko := (Blk.new (w.alloc (.cells (RC q (.slice A es.length c) (.slice vA vn vc)) 66)) 92 (oc o)).alloc (.cells Z9 66)
  have kz := Blk.new ((w.alloc (.cells (RC q (.slice A es.length c) (.slice vA vn vc)) 66)).alloc (.cells (oc o) 92)) 66 Z9
  simp only [World.size_alloc] at ko kz
  have b0 : Below w.heap.size w (((w.alloc (.cells (RC q (.slice A es.length c) (.slice vA vn vc)) 66)).alloc (.cells (oc o) 92)).alloc (.cells Z9 66)) := (((Below.refl _ _).alloc (Nat.le_refl _) _).alloc (by simp) _).alloc (by simp; omega) _
  go_enter Try.func71, Try.ntmps71
  go_upto_region 1 with (fail)
  generalize ((w.alloc (.cells (RC q (.slice A es.length c) (.slice vA vn vc)) 66)).alloc (.cells (oc o) 92)).alloc (.cells Z9 66) = W at *
  have hf := form_any q o W
  obtain ⟨⟨x0, x1, x2, x3, x4, x5, x6, x7, x8⟩, _⟩ := cells9 kb
  obtain ⟨o0, o1, o2, o3⟩ := ocells ko
  have lb := kb.lt
  have lo := ko.lt
  have lz := kz.lt
  go_wp2_with fail
  refine hf.mono ?_
  rintro e w1 ⟨rfl, hb1⟩
  rw [h1]
  have b1 := b0.trans (hb1.mono b0.size)
  clear x0 x1 x2 x3 x4 x5 x6 x7 x8 o0 o1 o2 o3
  have kb1 := kb.below hb1 kb.lt
  have ko1 := ko.below hb1 ko.lt
  have kz1 := kz.below hb1 kz.lt
  obtain ⟨⟨x0, x1, x2, x3, x4, x5, x6, x7, x8⟩, _⟩ := cells9 kb1
  obtain ⟨o0, o1, o2, o3⟩ := ocells ko1
  have lb1 := kb1.lt
  have lo1 := ko1.lt
  have lz1 := kz1.lt
  clear hf lb lo lz kb ko kz
  have hR1 := hR.now (b1.mono (Nat.le_refl _))
  have hg := refGet_any es A c o.s w1 hR1.es_.es
  rw [hR.pe_, HG] at hg
  clear h1
  go_wp2_with fail
  refine hg.mono ?_
  rintro e w2 ⟨hb2, A2, c2, rfl, hO2⟩
  simp only [] at hO2
  have b2 := b1.trans (hb2.mono b1.size)
  clear x0 x1 x2 x3 x4 x5 x6 x7 x8 o0 o1 o2 o3
  have kb2 := kb1.below hb2 kb1.lt
  have ko2 := ko1.below hb2 ko1.lt
  have kz2 := kz1.below hb2 kz1.lt
  have bY : Below w2.heap.size w2 (w2.alloc (.cells #[.string rn, .slice A2 rl.length c2] 79)) := (Below.refl _ _).alloc (Nat.le_refl _) _
  have kY3 := Blk.new w2 79 #[.string rn, .slice A2 rl.length c2]
  have b3 := b2.trans (bY.mono b2.size)
  have hO3 := hO2.agree (Agree.of_below bY fun g hg => hg.2)
  have hR3 := hR.now b3
  have kb3 := kb2.below bY kb2.lt
  have ko3 := ko2.below bY ko2.lt
  have kz3 := kz2.below bY kz2.lt
  generalize hWY : w2.alloc (.cells #[.string rn, .slice A2 rl.length c2] 79) = w3 at *
  have y0 := kY3.cell 0
  have y1 := kY3.cell 1
  simp only [List.getElem?_toArray, List.getElem?_cons_zero, List.getElem?_cons_succ] at y0 y1
  have f0 := kY3.frozen 0
  have f1 := kY3.frozen 1
  have lY3 := kY3.lt
  clear kb1 ko1 kz1 lb1 lo1 lz1 hg hO2
  obtain ⟨⟨x0, x1, x2, x3, x4, x5, x6, x7, x8⟩, _⟩ := cells9 kb3
  obtain ⟨o0, o1, o2, o3⟩ := ocells ko3
  have lb3 := kb3.lt
  have lo3 := ko3.lt
  have lz3 := kz3.lt
  go_upto_region 12 with (fail)
  have kY4 : Blk (w3.setCell ⟨w2.heap.size, 0, none⟩ (.string o.s)) w2.heap.size 79 #[.string o.s, .slice A2 rl.length c2] := by have := kY3.put 0 (.string o.s); simpa using this
  have hlt2 : w.heap.size + 1 + 1 < w2.heap.size := by have := kb2.lt; have := ko2.lt; have := kz2.lt; omega
  have kb4 := kb3.far (p := ⟨w2.heap.size, 0, none⟩) (by simp; omega) (.string o.s)
  have ko4 := ko3.far (p := ⟨w2.heap.size, 0, none⟩) (by simp; omega) (.string o.s)
  have kz4 := kz3.far (p := ⟨w2.heap.size, 0, none⟩) (by simp; omega) (.string o.s)
  have b4 : Below w.heap.size w (w3.setCell ⟨w2.heap.size, 0, none⟩ (.string o.s)) := b3.setCell (p := ⟨w2.heap.size, 0, none⟩) (by simp; omega) _
  have hV4 : Vs (w3.setCell ⟨w2.heap.size, 0, none⟩ (.string o.s)) (w3.setCell ⟨w2.heap.size, 0, none⟩ (.string o.s)).heap.size rl A2 c2 := (hO3.agree (fun g hg => Below.heap_setCell _ _ _ _ (by simp; omega))).vs.vs
  clear x0 x1 x2 x3 x4 x5 x6 x7 x8 o0 o1 o2 o3 y0 y1 f0 f1 lb3 lo3 lz3 lY3 kb3 ko3 kz3 kY3 hO3 hR3
  generalize w3.setCell ⟨w2.heap.size, 0, none⟩ (.string o.s) = w4 at *
  obtain ⟨⟨x0, x1, x2, x3, x4, x5, x6, x7, x8⟩, _⟩ := cells9 kb4
  obtain ⟨o0, o1, o2, o3⟩ := ocells ko4
  have lb4 := kb4.lt
  have lo4 := ko4.lt
  have lz4 := kz4.lt
  have y0 := kY4.cell 0
  have y1 := kY4.cell 1
  simp only [List.getElem?_toArray, List.getElem?_cons_zero, List.getElem?_cons_succ] at y0 y1
  have lY4 := kY4.lt
  have hp := refPut_any q.a q.b q.c q.d q.e q.f q.h o.s rl A2 c2 o.v o.t w4 hV4 hfit
  generalize addP q.a q.b q.c q.d q.e q.f q.h o.s rl o.v o.t q.e = r0 at *
  go_wp2_with fail
  refine hp.mono ?_
  rintro e w5 ⟨_, _, rfl, hb5, ⟨AX, cX, rfl, hVX, hlX⟩, ⟨AY, cY, rfl, _, _⟩⟩
  have b5 := b4.trans (hb5.mono b4.size)
  have hV5 := hV4.at_world hb5
  clear x0 x1 x2 x3 x4 x5 x6 x7 x8 o0 o1 o2 o3
  clear y0 y1 hp hV4
  have kb5 := kb4.below hb5 kb4.lt
  have ko5 := ko4.below hb5 ko4.lt
  have kz5 := kz4.below hb5 kz4.lt
  have kY5 := kY4.below hb5 kY4.lt
  have bZ : Below w5.heap.size w5 (w5.alloc (.cells #[.string r0.s, .slice AX r0.k.length cX, .slice AY r0.d.length cY, .int .i64 r0.bad] 173)) := (Below.refl _ _).alloc (Nat.le_refl _) _
  have kA6 := Blk.new w5 173 #[.string r0.s, .slice AX r0.k.length cX, .slice AY r0.d.length cY, .int .i64 r0.bad]
  have kb6 := kb5.below bZ kb5.lt
  have ko6 := ko5.below bZ ko5.lt
  have kz6 := kz5.below bZ kz5.lt
  have kY6 := kY5.below bZ kY5.lt
  have b6 := b5.trans (bZ.mono b5.size)
  have hV6 := hV5.at_world bZ
  have hs5 := hb5.size
  have XF6 : VsF (w5.alloc (.cells #[.string r0.s, .slice AX r0.k.length cX, .slice AY r0.d.length cY, .int .i64 r0.bad] 173)) (fun g => w.heap.size + 1 + 1 < g ∧ g < (w5.alloc (.cells #[.string r0.s, .slice AX r0.k.length cX, .slice AY r0.d.length cY, .int .i64 r0.bad] 173)).heap.size) r0.k AX cX := ((hv_vsF hVX hlX).agree (Agree.of_below bZ fun g hg => hg.2)).mono (fun g hg => ⟨by omega, by have := bZ.size; omega⟩)
  generalize hWZ : w5.alloc (.cells #[.string r0.s, .slice AX r0.k.length cX, .slice AY r0.d.length cY, .int .i64 r0.bad] 173) = w6 at *
  obtain ⟨⟨x0, x1, x2, x3, x4, x5, x6, x7, x8⟩, _⟩ := cells9 kb6
  obtain ⟨o0, o1, o2, o3⟩ := ocells ko6
  have lb6 := kb6.lt
  have lo6 := ko6.lt
  have lz6 := kz6.lt
  have y0 := kY6.cell 0
  have y1 := kY6.cell 1
  simp only [List.getElem?_toArray, List.getElem?_cons_zero, List.getElem?_cons_succ] at y0 y1
  have lY6 := kY6.lt
  obtain ⟨a0, a1, a2, a3⟩ := cells4 kA6
  have lA6 := kA6.lt
  have hq := refOver_any q.a q.b q.c q.d q.e q.f q.h o.s rl A2 c2 o.v o.t w6 hV6 hfit
  generalize addP q.a q.b q.c q.d q.e q.f q.h o.s rl o.v o.t 1 = r1 at *
  go_wp2_with fail
  refine hq.mono ?_
  rintro e w7 ⟨_, _, rfl, hb7, ⟨AU, cU, rfl, hVU, hlU⟩, ⟨AW, cW, rfl, _, _⟩⟩
  have b7 := b6.trans (hb7.mono b6.size)
  clear x0 x1 x2 x3 x4 x5 x6 x7 x8 o0 o1 o2 o3
  clear y0 y1 hq a0 a1 a2 a3
  have kb7 := kb6.below hb7 kb6.lt
  have ko7 := ko6.below hb7 ko6.lt
  have kz7 := kz6.below hb7 kz6.lt
  have kA7 := kA6.below hb7 kA6.lt
  obtain ⟨a0, a1, a2, a3⟩ := cells4 kA7
  have fa0 := kA7.frozen 0
  have fa1 := kA7.frozen 1
  have fa2 := kA7.frozen 2
  have fa3 := kA7.frozen 3
  have lA7 := kA7.lt
  have lb7 := kb7.lt
  have lo7 := ko7.lt
  go_upto_region 15 with (fail)
  have kA8 := put4 kA7 (.string r1.s) (.slice AU r1.k.length cU) (.slice AW r1.d.length cW) (.int .i64 r1.bad)
  have hgA : w.heap.size + 1 + 1 < w5.heap.size := by omega
  have bS : Below w5.heap.size w7 ((((w7.setCell ⟨w5.heap.size, 0, none⟩ (.string r1.s)).setCell ⟨w5.heap.size, 1, none⟩ (.slice AU r1.k.length cU)).setCell ⟨w5.heap.size, 2, none⟩ (.slice AW r1.d.length cW)).setCell ⟨w5.heap.size, 3, none⟩ (.int .i64 r1.bad)) := ((((Below.refl _ _).setCell (p := ⟨w5.heap.size, 0, none⟩) (by simp) _).setCell (p := ⟨w5.heap.size, 1, none⟩) (by simp) _).setCell (p := ⟨w5.heap.size, 2, none⟩) (by simp) _).setCell (p := ⟨w5.heap.size, 3, none⟩) (by simp) _
  have XF8 : VsF ((((w7.setCell ⟨w5.heap.size, 0, none⟩ (.string r1.s)).setCell ⟨w5.heap.size, 1, none⟩ (.slice AU r1.k.length cU)).setCell ⟨w5.heap.size, 2, none⟩ (.slice AW r1.d.length cW)).setCell ⟨w5.heap.size, 3, none⟩ (.int .i64 r1.bad)) (fun g => w.heap.size + 1 + 1 < g ∧ g < ((((w7.setCell ⟨w5.heap.size, 0, none⟩ (.string r1.s)).setCell ⟨w5.heap.size, 1, none⟩ (.slice AU r1.k.length cU)).setCell ⟨w5.heap.size, 2, none⟩ (.slice AW r1.d.length cW)).setCell ⟨w5.heap.size, 3, none⟩ (.int .i64 r1.bad)).heap.size) r1.k AU cU := by
    obtain ⟨A', c', e', hv, hl'⟩ := (show HV w6.heap.size w7 r1.k (.slice AU r1.k.length cU) from ⟨AU, cU, rfl, hVU, hlU⟩).setCell (p := ⟨w5.heap.size, 0, none⟩) (by simpa using lA6) (.string r1.s) |>.setCell (p := ⟨w5.heap.size, 1, none⟩) (by simpa using lA6) (.slice AU r1.k.length cU) |>.setCell (p := ⟨w5.heap.size, 2, none⟩) (by simpa using lA6) (.slice AW r1.d.length cW) |>.setCell (p := ⟨w5.heap.size, 3, none⟩) (by simpa using lA6) (.int .i64 r1.bad)
    cases e'
    exact (hv_vsF hv hl').mono (fun g hg => ⟨by omega, hg.2⟩)
  have kb8 := kb7.below bS (by omega)
  have ko8 := ko7.below bS (by omega)
  have kz8 := kz7.below bS (by omega)
  have b8 := b7.trans (bS.mono (by omega))
  clear a0 a1 a2 a3 fa0 fa1 fa2 fa3 lA7 lb7 lo7
  generalize (((w7.setCell ⟨w5.heap.size, 0, none⟩ (.string r1.s)).setCell ⟨w5.heap.size, 1, none⟩ (.slice AU r1.k.length cU)).setCell ⟨w5.heap.size, 2, none⟩ (.slice AW r1.d.length cW)).setCell ⟨w5.heap.size, 3, none⟩ (.int .i64 r1.bad) = w8 at *
  obtain ⟨⟨x0, x1, x2, x3, x4, x5, x6, x7, x8⟩, _⟩ := cells9 kb8
  obtain ⟨o0, o1, o2, o3⟩ := ocells ko8
  have lb8 := kb8.lt
  have lo8 := ko8.lt
  have lz8 := kz8.lt
  obtain ⟨a0, a1, a2, a3⟩ := cells4 kA8
  have lA8 := kA8.lt
  have hR8 := hR.now b8
  have d9 := ne_yes HBAD.out
  go_wp2_with fail
  have hS1 : Below w8.heap.size w8 w8.drew := (Below.refl _ _).drew
  have hS0 : Keep (fun g => g = w.heap.size + 1 + 1) w8 w8.drew := Keep.of_below hS1
  refine mix.region_D (fun w' => Keep (fun g => g = w.heap.size + 1 + 1) w8 w') (fun j => j == 4) (by kernel_rfl) ?_
  generalize w8.drew = w8d at hS0 hS1 ⊢
  refine mix.D_takeT (i := 0) (v := ?_) rfl (by kernel_rfl) (by kernel_rfl) (fun _ _ _ h => h) (Or.inl ⟨by rfl, ?_⟩) hS0 ?_
  rotate_left
  · intro w' hSw
    have y0 := (hSw.cell (p := ⟨w.heap.size, 0, none⟩) lb8 (by show ¬ (w.heap.size = w.heap.size + 1 + 1); omega)).trans x0
    have y1 := (hSw.cell (p := ⟨w.heap.size, 1, none⟩) lb8 (by show ¬ (w.heap.size = w.heap.size + 1 + 1); omega)).trans x1
    have y2 := (hSw.cell (p := ⟨w.heap.size, 2, none⟩) lb8 (by show ¬ (w.heap.size = w.heap.size + 1 + 1); omega)).trans x2
    have y3 := (hSw.cell (p := ⟨w.heap.size, 3, none⟩) lb8 (by show ¬ (w.heap.size = w.heap.size + 1 + 1); omega)).trans x3
    have y4 := (hSw.cell (p := ⟨w.heap.size, 4, none⟩) lb8 (by show ¬ (w.heap.size = w.heap.size + 1 + 1); omega)).trans x4
    have y5 := (hSw.cell (p := ⟨w.heap.size, 5, none⟩) lb8 (by show ¬ (w.heap.size = w.heap.size + 1 + 1); omega)).trans x5
    have y6 := (hSw.cell (p := ⟨w.heap.size, 6, none⟩) lb8 (by show ¬ (w.heap.size = w.heap.size + 1 + 1); omega)).trans x6
    have y7 := (hSw.cell (p := ⟨w.heap.size, 7, none⟩) lb8 (by show ¬ (w.heap.size = w.heap.size + 1 + 1); omega)).trans x7
    have y8 := (hSw.cell (p := ⟨w.heap.size, 8, none⟩) lb8 (by show ¬ (w.heap.size = w.heap.size + 1 + 1); omega)).trans x8
    have y9 := (hSw.cell (p := ⟨w5.heap.size, 3, none⟩) lA8 (by show ¬ (w5.heap.size = w.heap.size + 1 + 1); omega)).trans a3
    try simp only [List.getElem_toArray, List.getElem_cons_zero, List.getElem_cons_succ]
    go_simp
    exact rfl
  try simp only [Act.put, List.setIfInBounds_toArray, List.set_cons_zero, List.set_cons_succ, List.getElem_toArray, List.getElem_cons_zero, List.getElem_cons_succ]
  refine mix.D_takeT (i := 1) (v := ?_) rfl (by kernel_rfl) (by kernel_rfl) (fun _ _ _ h => h) (Or.inl ⟨by rfl, ?_⟩) hS0 ?_
  rotate_left
  · intro w' hSw
    have y0 := (hSw.cell (p := ⟨w.heap.size, 0, none⟩) lb8 (by show ¬ (w.heap.size = w.heap.size + 1 + 1); omega)).trans x0
    have y1 := (hSw.cell (p := ⟨w.heap.size, 1, none⟩) lb8 (by show ¬ (w.heap.size = w.heap.size + 1 + 1); omega)).trans x1
    have y2 := (hSw.cell (p := ⟨w.heap.size, 2, none⟩) lb8 (by show ¬ (w.heap.size = w.heap.size + 1 + 1); omega)).trans x2
    have y3 := (hSw.cell (p := ⟨w.heap.size, 3, none⟩) lb8 (by show ¬ (w.heap.size = w.heap.size + 1 + 1); omega)).trans x3
    have y4 := (hSw.cell (p := ⟨w.heap.size, 4, none⟩) lb8 (by show ¬ (w.heap.size = w.heap.size + 1 + 1); omega)).trans x4
    have y5 := (hSw.cell (p := ⟨w.heap.size, 5, none⟩) lb8 (by show ¬ (w.heap.size = w.heap.size + 1 + 1); omega)).trans x5
    have y6 := (hSw.cell (p := ⟨w.heap.size, 6, none⟩) lb8 (by show ¬ (w.heap.size = w.heap.size + 1 + 1); omega)).trans x6
    have y7 := (hSw.cell (p := ⟨w.heap.size, 7, none⟩) lb8 (by show ¬ (w.heap.size = w.heap.size + 1 + 1); omega)).trans x7
    have y8 := (hSw.cell (p := ⟨w.heap.size, 8, none⟩) lb8 (by show ¬ (w.heap.size = w.heap.size + 1 + 1); omega)).trans x8
    have y9 := (hSw.cell (p := ⟨w5.heap.size, 3, none⟩) lA8 (by show ¬ (w5.heap.size = w.heap.size + 1 + 1); omega)).trans a3
    try simp only [List.getElem_toArray, List.getElem_cons_zero, List.getElem_cons_succ]
    go_simp
    exact rfl
  try simp only [Act.put, List.setIfInBounds_toArray, List.set_cons_zero, List.set_cons_succ, List.getElem_toArray, List.getElem_cons_zero, List.getElem_cons_succ]
  refine mix.D_takeT (i := 2) (v := ?_) rfl (by kernel_rfl) (by kernel_rfl) (fun _ _ _ h => h) (Or.inl ⟨by rfl, ?_⟩) hS0 ?_
  rotate_left
  · intro w' hSw
    have y0 := (hSw.cell (p := ⟨w.heap.size, 0, none⟩) lb8 (by show ¬ (w.heap.size = w.heap.size + 1 + 1); omega)).trans x0
    have y1 := (hSw.cell (p := ⟨w.heap.size, 1, none⟩) lb8 (by show ¬ (w.heap.size = w.heap.size + 1 + 1); omega)).trans x1
    have y2 := (hSw.cell (p := ⟨w.heap.size, 2, none⟩) lb8 (by show ¬ (w.heap.size = w.heap.size + 1 + 1); omega)).trans x2
    have y3 := (hSw.cell (p := ⟨w.heap.size, 3, none⟩) lb8 (by show ¬ (w.heap.size = w.heap.size + 1 + 1); omega)).trans x3
    have y4 := (hSw.cell (p := ⟨w.heap.size, 4, none⟩) lb8 (by show ¬ (w.heap.size = w.heap.size + 1 + 1); omega)).trans x4
    have y5 := (hSw.cell (p := ⟨w.heap.size, 5, none⟩) lb8 (by show ¬ (w.heap.size = w.heap.size + 1 + 1); omega)).trans x5
    have y6 := (hSw.cell (p := ⟨w.heap.size, 6, none⟩) lb8 (by show ¬ (w.heap.size = w.heap.size + 1 + 1); omega)).trans x6
    have y7 := (hSw.cell (p := ⟨w.heap.size, 7, none⟩) lb8 (by show ¬ (w.heap.size = w.heap.size + 1 + 1); omega)).trans x7
    have y8 := (hSw.cell (p := ⟨w.heap.size, 8, none⟩) lb8 (by show ¬ (w.heap.size = w.heap.size + 1 + 1); omega)).trans x8
    have y9 := (hSw.cell (p := ⟨w5.heap.size, 3, none⟩) lA8 (by show ¬ (w5.heap.size = w.heap.size + 1 + 1); omega)).trans a3
    try simp only [List.getElem_toArray, List.getElem_cons_zero, List.getElem_cons_succ]
    go_simp
    exact rfl
  try simp only [Act.put, List.setIfInBounds_toArray, List.set_cons_zero, List.set_cons_succ, List.getElem_toArray, List.getElem_cons_zero, List.getElem_cons_succ]
  refine mix.D_op (k := 3) rfl rfl (by kernel_rfl) (fun K' hK => ?_)
  simp only [List.getElem_toArray, List.getElem_cons_zero, List.getElem_cons_succ]
  have kz9 := kz8.below hS1 kz8.lt
  have b9 := b8.trans (hS1.mono b8.size)
  obtain ⟨_, n0, n1, n2, n3, n4, n5, n6, n7, n8⟩ := cells9 kz9
  have lz9 := kz9.lt
  have kKeep := nine_keep hS1 (w.heap.size + 1 + 1) q (.slice A es.length c) (.slice vA vn vc)
  have kN := nine_blk kz9 q (.slice A es.length c) (.slice vA vn vc)
  have bN := nine_below b9 (B := w.heap.size) (g := w.heap.size + 1 + 1) (by omega) q (.slice A es.length c) (.slice vA vn vc)
  unfold nine at kN bN kKeep
  go_wp2_with fail
  refine hK.out _ _ (fun _ => kKeep) ?_
  clear hK K'
  try simp only [Act.put, List.setIfInBounds_toArray, List.set_cons_zero, List.set_cons_succ]
  generalize (((((((((World.setCell w8d ⟨w.heap.size + 1 + 1, 0, none⟩ (.int .i64 q.a)).setCell ⟨w.heap.size + 1 + 1, 1, none⟩ (.int .i64 q.b)).setCell ⟨w.heap.size + 1 + 1, 2, none⟩ (.int .i64 q.c)).setCell ⟨w.heap.size + 1 + 1, 3, none⟩ (.int .i64 q.d)).setCell ⟨w.heap.size + 1 + 1, 4, none⟩ (.int .i64 q.e)).setCell ⟨w.heap.size + 1 + 1, 5, none⟩ (.int .i64 q.f)).setCell ⟨w.heap.size + 1 + 1, 6, none⟩ (.int .i64 q.h)).setCell ⟨w.heap.size + 1 + 1, 7, none⟩ (.slice A es.length c)).setCell ⟨w.heap.size + 1 + 1, 8, none⟩ (.slice vA vn vc)) = W9 at kN bN kKeep ⊢
  refine mix.D_op (k := 4) rfl rfl (by kernel_rfl) (fun K' hK => ?_)
  simp only [List.getElem_toArray, List.getElem_cons_zero, List.getElem_cons_succ]
  go_wp2_with fail
  refine hK.out _ _ (fun h => by simp at h) ?_
  clear hK K'
  refine mix.D_done (by kernel_rfl) ?_ _
  obtain ⟨⟨v0, v1, v2, v3, v4, v5, v6, v7, v8⟩, _⟩ := cells9 kN
  go_wp2_with fail
  refine bodyPost_ret (v := .tuple #[RV q (.slice A es.length c) (.slice vA vn vc), .int .i64 r1.bad]) (by simp [results, Try.results71, go_sem, v0, v1, v2, v3, v4, v5, v6, v7, v8]) rfl ⟨es, A, c, (.slice vA vn vc), rfl, bN, hR.new bN⟩

set_option maxRecDepth 100000 in
set_option maxHeartbeats 4000000 in
theorem call_put_g (q : Qt) (o : O) (es : List E) (A : Option Addr) (c : Nat) (v : Value) (L : List PB) (P : List (List UInt8)) (w : World) (F : Nat → Prop) (hR : RAt w F es A c v L P) (h1 : rightO q o = 0) (hk3 : o.k ≠ 3) (hk2 : o.k = 2) (hl : (lk L o.s).isSome = true) (hbad : (addP q.a q.b q.c q.d q.e q.f q.h o.s ((lk L o.s).getD []) o.v o.t 1).bad = 0) (hfit : o.v.size ≤ maxLen ∧ o.t.size ≤ maxLen) (hos : o.s.size ≤ maxLen) (hlen : es.length ≤ 1000) (hPl : P.length ≤ 4000000) :
    Calls Try.prog 71 #[RV q (.slice A es.length c) v, .agg #[.int .i64 o.k, .string o.s, .string o.v, .string o.t]] w (CPost w q F (put L (o.s, (addP q.a q.b q.c q.d q.e q.f q.h o.s ((lk L o.s).getD []) o.v o.t 1).k)) (insD (bn o.v) P false) 0) := by
  obtain ⟨vA, vn, vc, rfl⟩ := hR.txt.shape
  obtain ⟨rn, rl, HG, HRL⟩ : ∃ rn rl, getP L o.s = (rn, rl, true) ∧ (lk L o.s).getD [] = rl := by
    unfold getP
    cases hll : lk L o.s with
    | none => rw [hll] at hl; cases hl
    | some l => exact ⟨_, _, rfl, rfl⟩
  rw [HRL] at hbad ⊢
  have HBAD := vers.lay hbad
  clear hbad
  have HRS := @addP_name q.a q.b q.c q.d q.e q.f q.h o.s rl o.v o.t 1
  have d3 := eq_no hk3
  have d2 := eq_yes hk2
  clear hk3 hk2 hl HRL
  have kb := ((Blk.new w 66 (RC q (.slice A es.length c) (.slice vA vn vc))).alloc (.cells (oc o) 92)).alloc (.cells Z9 66)
  have ko := (Blk.new (w.alloc (.cells (RC q (.slice A es.length c) (.slice vA vn vc)) 66)) 92 (oc o)).alloc (.cells Z9 66)
  have kz := Blk.new ((w.alloc (.cells (RC q (.slice A es.length c) (.slice vA vn vc)) 66)).alloc (.cells (oc o) 92)) 66 Z9
  simp only [World.size_alloc] at ko kz
  have b0 : Below w.heap.size w (((w.alloc (.cells (RC q (.slice A es.length c) (.slice vA vn vc)) 66)).alloc (.cells (oc o) 92)).alloc (.cells Z9 66)) := (((Below.refl _ _).alloc (Nat.le_refl _) _).alloc (by simp) _).alloc (by simp; omega) _
  go_enter Try.func71, Try.ntmps71
  go_upto_region 1 with (fail)
  generalize ((w.alloc (.cells (RC q (.slice A es.length c) (.slice vA vn vc)) 66)).alloc (.cells (oc o) 92)).alloc (.cells Z9 66) = W at *
  have hf := form_any q o W
  obtain ⟨⟨x0, x1, x2, x3, x4, x5, x6, x7, x8⟩, _⟩ := cells9 kb
  obtain ⟨o0, o1, o2, o3⟩ := ocells ko
  have lb := kb.lt
  have lo := ko.lt
  have lz := kz.lt
  go_wp2_with fail
  refine hf.mono ?_
  rintro e w1 ⟨rfl, hb1⟩
  rw [h1]
  have b1 := b0.trans (hb1.mono b0.size)
  clear x0 x1 x2 x3 x4 x5 x6 x7 x8 o0 o1 o2 o3
  have kb1 := kb.below hb1 kb.lt
  have ko1 := ko.below hb1 ko.lt
  have kz1 := kz.below hb1 kz.lt
  obtain ⟨⟨x0, x1, x2, x3, x4, x5, x6, x7, x8⟩, _⟩ := cells9 kb1
  obtain ⟨o0, o1, o2, o3⟩ := ocells ko1
  have lb1 := kb1.lt
  have lo1 := ko1.lt
  have lz1 := kz1.lt
  clear hf lb lo lz kb ko kz
  have hR1 := hR.now (b1.mono (Nat.le_refl _))
  have hg := refGet_any es A c o.s w1 hR1.es_.es
  rw [hR.pe_, HG] at hg
  clear h1
  go_wp2_with fail
  refine hg.mono ?_
  rintro e w2 ⟨hb2, A2, c2, rfl, hO2⟩
  simp only [] at hO2
  have b2 := b1.trans (hb2.mono b1.size)
  clear x0 x1 x2 x3 x4 x5 x6 x7 x8 o0 o1 o2 o3
  have kb2 := kb1.below hb2 kb1.lt
  have ko2 := ko1.below hb2 ko1.lt
  have kz2 := kz1.below hb2 kz1.lt
  have bY : Below w2.heap.size w2 (w2.alloc (.cells #[.string rn, .slice A2 rl.length c2] 79)) := (Below.refl _ _).alloc (Nat.le_refl _) _
  have kY3 := Blk.new w2 79 #[.string rn, .slice A2 rl.length c2]
  have b3 := b2.trans (bY.mono b2.size)
  have hO3 := hO2.agree (Agree.of_below bY fun g hg => hg.2)
  have hR3 := hR.now b3
  have kb3 := kb2.below bY kb2.lt
  have ko3 := ko2.below bY ko2.lt
  have kz3 := kz2.below bY kz2.lt
  generalize hWY : w2.alloc (.cells #[.string rn, .slice A2 rl.length c2] 79) = w3 at *
  have y0 := kY3.cell 0
  have y1 := kY3.cell 1
  simp only [List.getElem?_toArray, List.getElem?_cons_zero, List.getElem?_cons_succ] at y0 y1
  have f0 := kY3.frozen 0
  have f1 := kY3.frozen 1
  have lY3 := kY3.lt
  clear kb1 ko1 kz1 lb1 lo1 lz1 hg hO2
  obtain ⟨⟨x0, x1, x2, x3, x4, x5, x6, x7, x8⟩, _⟩ := cells9 kb3
  obtain ⟨o0, o1, o2, o3⟩ := ocells ko3
  have lb3 := kb3.lt
  have lo3 := ko3.lt
  have lz3 := kz3.lt
  go_upto_region 12 with (fail)
  have kY4 : Blk (w3.setCell ⟨w2.heap.size, 0, none⟩ (.string o.s)) w2.heap.size 79 #[.string o.s, .slice A2 rl.length c2] := by have := kY3.put 0 (.string o.s); simpa using this
  have hlt2 : w.heap.size + 1 + 1 < w2.heap.size := by have := kb2.lt; have := ko2.lt; have := kz2.lt; omega
  have kb4 := kb3.far (p := ⟨w2.heap.size, 0, none⟩) (by simp; omega) (.string o.s)
  have ko4 := ko3.far (p := ⟨w2.heap.size, 0, none⟩) (by simp; omega) (.string o.s)
  have kz4 := kz3.far (p := ⟨w2.heap.size, 0, none⟩) (by simp; omega) (.string o.s)
  have b4 : Below w.heap.size w (w3.setCell ⟨w2.heap.size, 0, none⟩ (.string o.s)) := b3.setCell (p := ⟨w2.heap.size, 0, none⟩) (by simp; omega) _
  have hV4 : Vs (w3.setCell ⟨w2.heap.size, 0, none⟩ (.string o.s)) (w3.setCell ⟨w2.heap.size, 0, none⟩ (.string o.s)).heap.size rl A2 c2 := (hO3.agree (fun g hg => Below.heap_setCell _ _ _ _ (by simp; omega))).vs.vs
  clear x0 x1 x2 x3 x4 x5 x6 x7 x8 o0 o1 o2 o3 y0 y1 f0 f1 lb3 lo3 lz3 lY3 kb3 ko3 kz3 kY3 hO3 hR3
  generalize w3.setCell ⟨w2.heap.size, 0, none⟩ (.string o.s) = w4 at *
  obtain ⟨⟨x0, x1, x2, x3, x4, x5, x6, x7, x8⟩, _⟩ := cells9 kb4
  obtain ⟨o0, o1, o2, o3⟩ := ocells ko4
  have lb4 := kb4.lt
  have lo4 := ko4.lt
  have lz4 := kz4.lt
  have y0 := kY4.cell 0
  have y1 := kY4.cell 1
  simp only [List.getElem?_toArray, List.getElem?_cons_zero, List.getElem?_cons_succ] at y0 y1
  have lY4 := kY4.lt
  have hp := refPut_any q.a q.b q.c q.d q.e q.f q.h o.s rl A2 c2 o.v o.t w4 hV4 hfit
  generalize addP q.a q.b q.c q.d q.e q.f q.h o.s rl o.v o.t q.e = r0 at *
  go_wp2_with fail
  refine hp.mono ?_
  rintro e w5 ⟨_, _, rfl, hb5, ⟨AX, cX, rfl, hVX, hlX⟩, ⟨AY, cY, rfl, _, _⟩⟩
  have b5 := b4.trans (hb5.mono b4.size)
  have hV5 := hV4.at_world hb5
  clear x0 x1 x2 x3 x4 x5 x6 x7 x8 o0 o1 o2 o3
  clear y0 y1 hp hV4
  have kb5 := kb4.below hb5 kb4.lt
  have ko5 := ko4.below hb5 ko4.lt
  have kz5 := kz4.below hb5 kz4.lt
  have kY5 := kY4.below hb5 kY4.lt
  have bZ : Below w5.heap.size w5 (w5.alloc (.cells #[.string r0.s, .slice AX r0.k.length cX, .slice AY r0.d.length cY, .int .i64 r0.bad] 173)) := (Below.refl _ _).alloc (Nat.le_refl _) _
  have kA6 := Blk.new w5 173 #[.string r0.s, .slice AX r0.k.length cX, .slice AY r0.d.length cY, .int .i64 r0.bad]
  have kb6 := kb5.below bZ kb5.lt
  have ko6 := ko5.below bZ ko5.lt
  have kz6 := kz5.below bZ kz5.lt
  have kY6 := kY5.below bZ kY5.lt
  have b6 := b5.trans (bZ.mono b5.size)
  have hV6 := hV5.at_world bZ
  have hs5 := hb5.size
  have XF6 : VsF (w5.alloc (.cells #[.string r0.s, .slice AX r0.k.length cX, .slice AY r0.d.length cY, .int .i64 r0.bad] 173)) (fun g => w.heap.size + 1 + 1 < g ∧ g < (w5.alloc (.cells #[.string r0.s, .slice AX r0.k.length cX, .slice AY r0.d.length cY, .int .i64 r0.bad] 173)).heap.size) r0.k AX cX := ((hv_vsF hVX hlX).agree (Agree.of_below bZ fun g hg => hg.2)).mono (fun g hg => ⟨by omega, by have := bZ.size; omega⟩)
  generalize hWZ : w5.alloc (.cells #[.string r0.s, .slice AX r0.k.length cX, .slice AY r0.d.length cY, .int .i64 r0.bad] 173) = w6 at *
  obtain ⟨⟨x0, x1, x2, x3, x4, x5, x6, x7, x8⟩, _⟩ := cells9 kb6
  obtain ⟨o0, o1, o2, o3⟩ := ocells ko6
  have lb6 := kb6.lt
  have lo6 := ko6.lt
  have lz6 := kz6.lt
  have y0 := kY6.cell 0
  have y1 := kY6.cell 1
  simp only [List.getElem?_toArray, List.getElem?_cons_zero, List.getElem?_cons_succ] at y0 y1
  have lY6 := kY6.lt
  obtain ⟨a0, a1, a2, a3⟩ := cells4 kA6
  have lA6 := kA6.lt
  have hq := refOver_any q.a q.b q.c q.d q.e q.f q.h o.s rl A2 c2 o.v o.t w6 hV6 hfit
  generalize addP q.a q.b q.c q.d q.e q.f q.h o.s rl o.v o.t 1 = r1 at *
  go_wp2_with fail
  refine hq.mono ?_
  rintro e w7 ⟨_, _, rfl, hb7, ⟨AU, cU, rfl, hVU, hlU⟩, ⟨AW, cW, rfl, _, _⟩⟩
  have b7 := b6.trans (hb7.mono b6.size)
  clear x0 x1 x2 x3 x4 x5 x6 x7 x8 o0 o1 o2 o3
  clear y0 y1 hq a0 a1 a2 a3
  have kb7 := kb6.below hb7 kb6.lt
  have ko7 := ko6.below hb7 ko6.lt
  have kz7 := kz6.below hb7 kz6.lt
  have kA7 := kA6.below hb7 kA6.lt
  obtain ⟨a0, a1, a2, a3⟩ := cells4 kA7
  have fa0 := kA7.frozen 0
  have fa1 := kA7.frozen 1
  have fa2 := kA7.frozen 2
  have fa3 := kA7.frozen 3
  have lA7 := kA7.lt
  have lb7 := kb7.lt
  have lo7 := ko7.lt
  go_upto_region 15 with (fail)
  have kA8 := put4 kA7 (.string r1.s) (.slice AU r1.k.length cU) (.slice AW r1.d.length cW) (.int .i64 r1.bad)
  have hgA : w.heap.size + 1 + 1 < w5.heap.size := by omega
  have bS : Below w5.heap.size w7 ((((w7.setCell ⟨w5.heap.size, 0, none⟩ (.string r1.s)).setCell ⟨w5.heap.size, 1, none⟩ (.slice AU r1.k.length cU)).setCell ⟨w5.heap.size, 2, none⟩ (.slice AW r1.d.length cW)).setCell ⟨w5.heap.size, 3, none⟩ (.int .i64 r1.bad)) := ((((Below.refl _ _).setCell (p := ⟨w5.heap.size, 0, none⟩) (by simp) _).setCell (p := ⟨w5.heap.size, 1, none⟩) (by simp) _).setCell (p := ⟨w5.heap.size, 2, none⟩) (by simp) _).setCell (p := ⟨w5.heap.size, 3, none⟩) (by simp) _
  have XF8 : VsF ((((w7.setCell ⟨w5.heap.size, 0, none⟩ (.string r1.s)).setCell ⟨w5.heap.size, 1, none⟩ (.slice AU r1.k.length cU)).setCell ⟨w5.heap.size, 2, none⟩ (.slice AW r1.d.length cW)).setCell ⟨w5.heap.size, 3, none⟩ (.int .i64 r1.bad)) (fun g => w.heap.size + 1 + 1 < g ∧ g < ((((w7.setCell ⟨w5.heap.size, 0, none⟩ (.string r1.s)).setCell ⟨w5.heap.size, 1, none⟩ (.slice AU r1.k.length cU)).setCell ⟨w5.heap.size, 2, none⟩ (.slice AW r1.d.length cW)).setCell ⟨w5.heap.size, 3, none⟩ (.int .i64 r1.bad)).heap.size) r1.k AU cU := by
    obtain ⟨A', c', e', hv, hl'⟩ := (show HV w6.heap.size w7 r1.k (.slice AU r1.k.length cU) from ⟨AU, cU, rfl, hVU, hlU⟩).setCell (p := ⟨w5.heap.size, 0, none⟩) (by simpa using lA6) (.string r1.s) |>.setCell (p := ⟨w5.heap.size, 1, none⟩) (by simpa using lA6) (.slice AU r1.k.length cU) |>.setCell (p := ⟨w5.heap.size, 2, none⟩) (by simpa using lA6) (.slice AW r1.d.length cW) |>.setCell (p := ⟨w5.heap.size, 3, none⟩) (by simpa using lA6) (.int .i64 r1.bad)
    cases e'
    exact (hv_vsF hv hl').mono (fun g hg => ⟨by omega, hg.2⟩)
  have kb8 := kb7.below bS (by omega)
  have ko8 := ko7.below bS (by omega)
  have kz8 := kz7.below bS (by omega)
  have b8 := b7.trans (bS.mono (by omega))
  clear a0 a1 a2 a3 fa0 fa1 fa2 fa3 lA7 lb7 lo7
  generalize (((w7.setCell ⟨w5.heap.size, 0, none⟩ (.string r1.s)).setCell ⟨w5.heap.size, 1, none⟩ (.slice AU r1.k.length cU)).setCell ⟨w5.heap.size, 2, none⟩ (.slice AW r1.d.length cW)).setCell ⟨w5.heap.size, 3, none⟩ (.int .i64 r1.bad) = w8 at *
  obtain ⟨⟨x0, x1, x2, x3, x4, x5, x6, x7, x8⟩, _⟩ := cells9 kb8
  obtain ⟨o0, o1, o2, o3⟩ := ocells ko8
  have lb8 := kb8.lt
  have lo8 := ko8.lt
  have lz8 := kz8.lt
  obtain ⟨a0, a1, a2, a3⟩ := cells4 kA8
  have lA8 := kA8.lt
  have hR8 := hR.now b8
  have d9 : (r1.bad != 0) = false := ne_no HBAD.out
  have HRR := vers.lay (HRS HBAD.out)
  clear HBAD HRS
  go_wp2_with fail
  have hS0 : Below w8.heap.size w8 w8.drew := (Below.refl _ _).drew
  refine mix.region_D (fun w' => Below w8.heap.size w8 w') (fun j => j == 13 || j == 14) (by kernel_rfl) ?_
  generalize w8.drew = w8d at hS0 ⊢
  refine mix.D_takeT (i := 0) (v := ?_) rfl (by kernel_rfl) (by kernel_rfl) (fun _ _ _ h => h) (Or.inl ⟨by rfl, ?_⟩) hS0 ?_
  rotate_left
  · intro w' hSw
    have y0 := (hSw.cell (p := ⟨w.heap.size, 0, none⟩) lb8).trans x0
    have y1 := (hSw.cell (p := ⟨w.heap.size, 1, none⟩) lb8).trans x1
    have y2 := (hSw.cell (p := ⟨w.heap.size, 2, none⟩) lb8).trans x2
    have y3 := (hSw.cell (p := ⟨w.heap.size, 3, none⟩) lb8).trans x3
    have y4 := (hSw.cell (p := ⟨w.heap.size, 4, none⟩) lb8).trans x4
    have y5 := (hSw.cell (p := ⟨w.heap.size, 5, none⟩) lb8).trans x5
    have y6 := (hSw.cell (p := ⟨w.heap.size, 6, none⟩) lb8).trans x6
    have y7 := (hSw.cell (p := ⟨w.heap.size, 7, none⟩) lb8).trans x7
    have y8 := (hSw.cell (p := ⟨w.heap.size, 8, none⟩) lb8).trans x8
    have y9 := (hSw.cell (p := ⟨w.heap.size + 1, 2, none⟩) lo8).trans o2
    have y10 := (hSw.cell (p := ⟨w5.heap.size, 0, none⟩) lA8).trans a0
    have y11 := (hSw.cell (p := ⟨w5.heap.size, 1, none⟩) lA8).trans a1
    try simp only [List.getElem_toArray, List.getElem_cons_zero, List.getElem_cons_succ]
    go_simp
    exact rfl
  try simp only [Act.put, List.setIfInBounds_toArray, List.set_cons_zero, List.set_cons_succ, List.getElem_toArray, List.getElem_cons_zero, List.getElem_cons_succ]
  refine mix.D_takeT (i := 1) (v := ?_) rfl (by kernel_rfl) (by kernel_rfl) (fun _ _ _ h => h) (Or.inl ⟨by rfl, ?_⟩) hS0 ?_
  rotate_left
  · intro w' hSw
    have y0 := (hSw.cell (p := ⟨w.heap.size, 0, none⟩) lb8).trans x0
    have y1 := (hSw.cell (p := ⟨w.heap.size, 1, none⟩) lb8).trans x1
    have y2 := (hSw.cell (p := ⟨w.heap.size, 2, none⟩) lb8).trans x2
    have y3 := (hSw.cell (p := ⟨w.heap.size, 3, none⟩) lb8).trans x3
    have y4 := (hSw.cell (p := ⟨w.heap.size, 4, none⟩) lb8).trans x4
    have y5 := (hSw.cell (p := ⟨w.heap.size, 5, none⟩) lb8).trans x5
    have y6 := (hSw.cell (p := ⟨w.heap.size, 6, none⟩) lb8).trans x6
    have y7 := (hSw.cell (p := ⟨w.heap.size, 7, none⟩) lb8).trans x7
    have y8 := (hSw.cell (p := ⟨w.heap.size, 8, none⟩) lb8).trans x8
    have y9 := (hSw.cell (p := ⟨w.heap.size + 1, 2, none⟩) lo8).trans o2
    have y10 := (hSw.cell (p := ⟨w5.heap.size, 0, none⟩) lA8).trans a0
    have y11 := (hSw.cell (p := ⟨w5.heap.size, 1, none⟩) lA8).trans a1
    try simp only [List.getElem_toArray, List.getElem_cons_zero, List.getElem_cons_succ]
    go_simp
    exact rfl
  try simp only [Act.put, List.setIfInBounds_toArray, List.set_cons_zero, List.set_cons_succ, List.getElem_toArray, List.getElem_cons_zero, List.getElem_cons_succ]
  refine mix.D_takeT (i := 2) (v := ?_) rfl (by kernel_rfl) (by kernel_rfl) (fun _ _ _ h => h) (Or.inl ⟨by rfl, ?_⟩) hS0 ?_
  rotate_left
  · intro w' hSw
    have y0 := (hSw.cell (p := ⟨w.heap.size, 0, none⟩) lb8).trans x0
    have y1 := (hSw.cell (p := ⟨w.heap.size, 1, none⟩) lb8).trans x1
    have y2 := (hSw.cell (p := ⟨w.heap.size, 2, none⟩) lb8).trans x2
    have y3 := (hSw.cell (p := ⟨w.heap.size, 3, none⟩) lb8).trans x3
    have y4 := (hSw.cell (p := ⟨w.heap.size, 4, none⟩) lb8).trans x4
    have y5 := (hSw.cell (p := ⟨w.heap.size, 5, none⟩) lb8).trans x5
    have y6 := (hSw.cell (p := ⟨w.heap.size, 6, none⟩) lb8).trans x6
    have y7 := (hSw.cell (p := ⟨w.heap.size, 7, none⟩) lb8).trans x7
    have y8 := (hSw.cell (p := ⟨w.heap.size, 8, none⟩) lb8).trans x8
    have y9 := (hSw.cell (p := ⟨w.heap.size + 1, 2, none⟩) lo8).trans o2
    have y10 := (hSw.cell (p := ⟨w5.heap.size, 0, none⟩) lA8).trans a0
    have y11 := (hSw.cell (p := ⟨w5.heap.size, 1, none⟩) lA8).trans a1
    try simp only [List.getElem_toArray, List.getElem_cons_zero, List.getElem_cons_succ]
    go_simp
    exact rfl
  try simp only [Act.put, List.setIfInBounds_toArray, List.set_cons_zero, List.set_cons_succ, List.getElem_toArray, List.getElem_cons_zero, List.getElem_cons_succ]
  refine mix.D_takeT (i := 3) (v := ?_) rfl (by kernel_rfl) (by kernel_rfl) (fun _ _ _ h => h) (Or.inl ⟨by rfl, ?_⟩) hS0 ?_
  rotate_left
  · intro w' hSw
    have y0 := (hSw.cell (p := ⟨w.heap.size, 0, none⟩) lb8).trans x0
    have y1 := (hSw.cell (p := ⟨w.heap.size, 1, none⟩) lb8).trans x1
    have y2 := (hSw.cell (p := ⟨w.heap.size, 2, none⟩) lb8).trans x2
    have y3 := (hSw.cell (p := ⟨w.heap.size, 3, none⟩) lb8).trans x3
    have y4 := (hSw.cell (p := ⟨w.heap.size, 4, none⟩) lb8).trans x4
    have y5 := (hSw.cell (p := ⟨w.heap.size, 5, none⟩) lb8).trans x5
    have y6 := (hSw.cell (p := ⟨w.heap.size, 6, none⟩) lb8).trans x6
    have y7 := (hSw.cell (p := ⟨w.heap.size, 7, none⟩) lb8).trans x7
    have y8 := (hSw.cell (p := ⟨w.heap.size, 8, none⟩) lb8).trans x8
    have y9 := (hSw.cell (p := ⟨w.heap.size + 1, 2, none⟩) lo8).trans o2
    have y10 := (hSw.cell (p := ⟨w5.heap.size, 0, none⟩) lA8).trans a0
    have y11 := (hSw.cell (p := ⟨w5.heap.size, 1, none⟩) lA8).trans a1
    try simp only [List.getElem_toArray, List.getElem_cons_zero, List.getElem_cons_succ]
    go_simp
    exact rfl
  try simp only [Act.put, List.setIfInBounds_toArray, List.set_cons_zero, List.set_cons_succ, List.getElem_toArray, List.getElem_cons_zero, List.getElem_cons_succ]
  refine mix.D_takeT (i := 4) (v := ?_) rfl (by kernel_rfl) (by kernel_rfl) (fun _ _ _ h => h) (Or.inl ⟨by rfl, ?_⟩) hS0 ?_
  rotate_left
  · intro w' hSw
    have y0 := (hSw.cell (p := ⟨w.heap.size, 0, none⟩) lb8).trans x0
    have y1 := (hSw.cell (p := ⟨w.heap.size, 1, none⟩) lb8).trans x1
    have y2 := (hSw.cell (p := ⟨w.heap.size, 2, none⟩) lb8).trans x2
    have y3 := (hSw.cell (p := ⟨w.heap.size, 3, none⟩) lb8).trans x3
    have y4 := (hSw.cell (p := ⟨w.heap.size, 4, none⟩) lb8).trans x4
    have y5 := (hSw.cell (p := ⟨w.heap.size, 5, none⟩) lb8).trans x5
    have y6 := (hSw.cell (p := ⟨w.heap.size, 6, none⟩) lb8).trans x6
    have y7 := (hSw.cell (p := ⟨w.heap.size, 7, none⟩) lb8).trans x7
    have y8 := (hSw.cell (p := ⟨w.heap.size, 8, none⟩) lb8).trans x8
    have y9 := (hSw.cell (p := ⟨w.heap.size + 1, 2, none⟩) lo8).trans o2
    have y10 := (hSw.cell (p := ⟨w5.heap.size, 0, none⟩) lA8).trans a0
    have y11 := (hSw.cell (p := ⟨w5.heap.size, 1, none⟩) lA8).trans a1
    try simp only [List.getElem_toArray, List.getElem_cons_zero, List.getElem_cons_succ]
    go_simp
    exact rfl
  try simp only [Act.put, List.setIfInBounds_toArray, List.set_cons_zero, List.set_cons_succ, List.getElem_toArray, List.getElem_cons_zero, List.getElem_cons_succ]
  refine mix.D_takeT (i := 5) (v := ?_) rfl (by kernel_rfl) (by kernel_rfl) (fun _ _ _ h => h) (Or.inl ⟨by rfl, ?_⟩) hS0 ?_
  rotate_left
  · intro w' hSw
    have y0 := (hSw.cell (p := ⟨w.heap.size, 0, none⟩) lb8).trans x0
    have y1 := (hSw.cell (p := ⟨w.heap.size, 1, none⟩) lb8).trans x1
    have y2 := (hSw.cell (p := ⟨w.heap.size, 2, none⟩) lb8).trans x2
    have y3 := (hSw.cell (p := ⟨w.heap.size, 3, none⟩) lb8).trans x3
    have y4 := (hSw.cell (p := ⟨w.heap.size, 4, none⟩) lb8).trans x4
    have y5 := (hSw.cell (p := ⟨w.heap.size, 5, none⟩) lb8).trans x5
    have y6 := (hSw.cell (p := ⟨w.heap.size, 6, none⟩) lb8).trans x6
    have y7 := (hSw.cell (p := ⟨w.heap.size, 7, none⟩) lb8).trans x7
    have y8 := (hSw.cell (p := ⟨w.heap.size, 8, none⟩) lb8).trans x8
    have y9 := (hSw.cell (p := ⟨w.heap.size + 1, 2, none⟩) lo8).trans o2
    have y10 := (hSw.cell (p := ⟨w5.heap.size, 0, none⟩) lA8).trans a0
    have y11 := (hSw.cell (p := ⟨w5.heap.size, 1, none⟩) lA8).trans a1
    try simp only [List.getElem_toArray, List.getElem_cons_zero, List.getElem_cons_succ]
    go_simp
    exact rfl
  try simp only [Act.put, List.setIfInBounds_toArray, List.set_cons_zero, List.set_cons_succ, List.getElem_toArray, List.getElem_cons_zero, List.getElem_cons_succ]
  refine mix.D_takeT (i := 7) (v := ?_) rfl (by kernel_rfl) (by kernel_rfl) (fun _ _ _ h => h) (Or.inl ⟨by rfl, ?_⟩) hS0 ?_
  rotate_left
  · intro w' hSw
    have y0 := (hSw.cell (p := ⟨w.heap.size, 0, none⟩) lb8).trans x0
    have y1 := (hSw.cell (p := ⟨w.heap.size, 1, none⟩) lb8).trans x1
    have y2 := (hSw.cell (p := ⟨w.heap.size, 2, none⟩) lb8).trans x2
    have y3 := (hSw.cell (p := ⟨w.heap.size, 3, none⟩) lb8).trans x3
    have y4 := (hSw.cell (p := ⟨w.heap.size, 4, none⟩) lb8).trans x4
    have y5 := (hSw.cell (p := ⟨w.heap.size, 5, none⟩) lb8).trans x5
    have y6 := (hSw.cell (p := ⟨w.heap.size, 6, none⟩) lb8).trans x6
    have y7 := (hSw.cell (p := ⟨w.heap.size, 7, none⟩) lb8).trans x7
    have y8 := (hSw.cell (p := ⟨w.heap.size, 8, none⟩) lb8).trans x8
    have y9 := (hSw.cell (p := ⟨w.heap.size + 1, 2, none⟩) lo8).trans o2
    have y10 := (hSw.cell (p := ⟨w5.heap.size, 0, none⟩) lA8).trans a0
    have y11 := (hSw.cell (p := ⟨w5.heap.size, 1, none⟩) lA8).trans a1
    try simp only [List.getElem_toArray, List.getElem_cons_zero, List.getElem_cons_succ]
    go_simp
    exact rfl
  try simp only [Act.put, List.setIfInBounds_toArray, List.set_cons_zero, List.set_cons_succ, List.getElem_toArray, List.getElem_cons_zero, List.getElem_cons_succ]
  refine mix.D_takeT (i := 8) (v := ?_) rfl (by kernel_rfl) (by kernel_rfl) (fun _ _ _ h => h) (Or.inl ⟨by rfl, ?_⟩) hS0 ?_
  rotate_left
  · intro w' hSw
    have y0 := (hSw.cell (p := ⟨w.heap.size, 0, none⟩) lb8).trans x0
    have y1 := (hSw.cell (p := ⟨w.heap.size, 1, none⟩) lb8).trans x1
    have y2 := (hSw.cell (p := ⟨w.heap.size, 2, none⟩) lb8).trans x2
    have y3 := (hSw.cell (p := ⟨w.heap.size, 3, none⟩) lb8).trans x3
    have y4 := (hSw.cell (p := ⟨w.heap.size, 4, none⟩) lb8).trans x4
    have y5 := (hSw.cell (p := ⟨w.heap.size, 5, none⟩) lb8).trans x5
    have y6 := (hSw.cell (p := ⟨w.heap.size, 6, none⟩) lb8).trans x6
    have y7 := (hSw.cell (p := ⟨w.heap.size, 7, none⟩) lb8).trans x7
    have y8 := (hSw.cell (p := ⟨w.heap.size, 8, none⟩) lb8).trans x8
    have y9 := (hSw.cell (p := ⟨w.heap.size + 1, 2, none⟩) lo8).trans o2
    have y10 := (hSw.cell (p := ⟨w5.heap.size, 0, none⟩) lA8).trans a0
    have y11 := (hSw.cell (p := ⟨w5.heap.size, 1, none⟩) lA8).trans a1
    try simp only [List.getElem_toArray, List.getElem_cons_zero, List.getElem_cons_succ]
    go_simp
    exact rfl
  try simp only [Act.put, List.setIfInBounds_toArray, List.set_cons_zero, List.set_cons_succ, List.getElem_toArray, List.getElem_cons_zero, List.getElem_cons_succ]
  refine mix.D_takeT (i := 9) (v := ?_) rfl (by kernel_rfl) (by kernel_rfl) (fun _ _ _ h => h) (Or.inl ⟨by rfl, ?_⟩) hS0 ?_
  rotate_left
  · intro w' hSw
    have y0 := (hSw.cell (p := ⟨w.heap.size, 0, none⟩) lb8).trans x0
    have y1 := (hSw.cell (p := ⟨w.heap.size, 1, none⟩) lb8).trans x1
    have y2 := (hSw.cell (p := ⟨w.heap.size, 2, none⟩) lb8).trans x2
    have y3 := (hSw.cell (p := ⟨w.heap.size, 3, none⟩) lb8).trans x3
    have y4 := (hSw.cell (p := ⟨w.heap.size, 4, none⟩) lb8).trans x4
    have y5 := (hSw.cell (p := ⟨w.heap.size, 5, none⟩) lb8).trans x5
    have y6 := (hSw.cell (p := ⟨w.heap.size, 6, none⟩) lb8).trans x6
    have y7 := (hSw.cell (p := ⟨w.heap.size, 7, none⟩) lb8).trans x7
    have y8 := (hSw.cell (p := ⟨w.heap.size, 8, none⟩) lb8).trans x8
    have y9 := (hSw.cell (p := ⟨w.heap.size + 1, 2, none⟩) lo8).trans o2
    have y10 := (hSw.cell (p := ⟨w5.heap.size, 0, none⟩) lA8).trans a0
    have y11 := (hSw.cell (p := ⟨w5.heap.size, 1, none⟩) lA8).trans a1
    try simp only [List.getElem_toArray, List.getElem_cons_zero, List.getElem_cons_succ]
    go_simp
    exact rfl
  try simp only [Act.put, List.setIfInBounds_toArray, List.set_cons_zero, List.set_cons_succ, List.getElem_toArray, List.getElem_cons_zero, List.getElem_cons_succ]
  refine mix.D_takeT (i := 10) (v := ?_) rfl (by kernel_rfl) (by kernel_rfl) (fun _ _ _ h => h) (Or.inl ⟨by rfl, ?_⟩) hS0 ?_
  rotate_left
  · intro w' hSw
    have y0 := (hSw.cell (p := ⟨w.heap.size, 0, none⟩) lb8).trans x0
    have y1 := (hSw.cell (p := ⟨w.heap.size, 1, none⟩) lb8).trans x1
    have y2 := (hSw.cell (p := ⟨w.heap.size, 2, none⟩) lb8).trans x2
    have y3 := (hSw.cell (p := ⟨w.heap.size, 3, none⟩) lb8).trans x3
    have y4 := (hSw.cell (p := ⟨w.heap.size, 4, none⟩) lb8).trans x4
    have y5 := (hSw.cell (p := ⟨w.heap.size, 5, none⟩) lb8).trans x5
    have y6 := (hSw.cell (p := ⟨w.heap.size, 6, none⟩) lb8).trans x6
    have y7 := (hSw.cell (p := ⟨w.heap.size, 7, none⟩) lb8).trans x7
    have y8 := (hSw.cell (p := ⟨w.heap.size, 8, none⟩) lb8).trans x8
    have y9 := (hSw.cell (p := ⟨w.heap.size + 1, 2, none⟩) lo8).trans o2
    have y10 := (hSw.cell (p := ⟨w5.heap.size, 0, none⟩) lA8).trans a0
    have y11 := (hSw.cell (p := ⟨w5.heap.size, 1, none⟩) lA8).trans a1
    try simp only [List.getElem_toArray, List.getElem_cons_zero, List.getElem_cons_succ]
    go_simp
    exact rfl
  try simp only [Act.put, List.setIfInBounds_toArray, List.set_cons_zero, List.set_cons_succ, List.getElem_toArray, List.getElem_cons_zero, List.getElem_cons_succ]
  refine mix.D_op (k := 6) rfl rfl (by kernel_rfl) (fun K' hK => ?_)
  simp only [List.getElem_toArray, List.getElem_cons_zero, List.getElem_cons_succ]
  go_wp2_with fail
  refine (with_any es A c (⟨r1.s, r1.k, AU, cU⟩ : E) _ (hR8.now hS0).es_.es hlen).mono ?_
  rintro e wb1 ⟨vW, rfl, hs1, hrW1, hoW1⟩
  obtain ⟨AW9, nW9, cW9, rfl⟩ := row_shape hrW1
  have zc1 := vers.lay (show w8.heap.size ≤ w8d.heap.size from hS0.size)
  have hb1 : Below w8.heap.size w8 wb1 := hS0.trans (hs1.mono hS0.size)
  refine hK.out _ _ (fun _ => hb1) ?_
  clear hK K'
  try simp only [Act.put, List.setIfInBounds_toArray, List.set_cons_zero, List.set_cons_succ]
  refine mix.D_op (k := 11) rfl rfl (by kernel_rfl) (fun K' hK => ?_)
  simp only [List.getElem_toArray, List.getElem_cons_zero, List.getElem_cons_succ]
  go_wp2_with fail
  refine (insert_lo (.slice vA vn vc) 0 P o.v _ (hR8.now hb1).txt.txt hPl).mono ?_
  rintro e wb2 ⟨vT, rfl, hs2, hT2⟩
  obtain ⟨AT9, nT9, cT9, rfl⟩ := (TxF.of hT2).shape
  have zt2 := vers.lay (show w8.heap.size ≤ wb1.heap.size from hb1.size)
  have hrW2 := row_below hrW1 hs2
  have hb2 : Below w8.heap.size w8 wb2 := hb1.trans (hs2.mono hb1.size)
  refine hK.out _ _ (fun _ => hb2) ?_
  clear hK K'
  try simp only [Act.put, List.setIfInBounds_toArray, List.set_cons_zero, List.set_cons_succ]
  refine mix.D_takeT (i := 12) (v := ?_) rfl (by kernel_rfl) (by kernel_rfl) (fun _ _ _ h => h) (Or.inl ⟨by rfl, ?_⟩) hb2 ?_
  rotate_left
  · intro w' hSw
    have y0 := (hSw.cell (p := ⟨w.heap.size, 0, none⟩) lb8).trans x0
    have y1 := (hSw.cell (p := ⟨w.heap.size, 1, none⟩) lb8).trans x1
    have y2 := (hSw.cell (p := ⟨w.heap.size, 2, none⟩) lb8).trans x2
    have y3 := (hSw.cell (p := ⟨w.heap.size, 3, none⟩) lb8).trans x3
    have y4 := (hSw.cell (p := ⟨w.heap.size, 4, none⟩) lb8).trans x4
    have y5 := (hSw.cell (p := ⟨w.heap.size, 5, none⟩) lb8).trans x5
    have y6 := (hSw.cell (p := ⟨w.heap.size, 6, none⟩) lb8).trans x6
    have y7 := (hSw.cell (p := ⟨w.heap.size, 7, none⟩) lb8).trans x7
    have y8 := (hSw.cell (p := ⟨w.heap.size, 8, none⟩) lb8).trans x8
    have y9 := (hSw.cell (p := ⟨w.heap.size + 1, 2, none⟩) lo8).trans o2
    have y10 := (hSw.cell (p := ⟨w5.heap.size, 0, none⟩) lA8).trans a0
    have y11 := (hSw.cell (p := ⟨w5.heap.size, 1, none⟩) lA8).trans a1
    try simp only [List.getElem_toArray, List.getElem_cons_zero, List.getElem_cons_succ]
    go_simp
    exact rfl
  try simp only [Act.put, List.setIfInBounds_toArray, List.set_cons_zero, List.set_cons_succ, List.getElem_toArray, List.getElem_cons_zero, List.getElem_cons_succ]
  refine mix.D_op (k := 13) rfl rfl (by kernel_rfl) (fun K' hK => ?_)
  simp only [List.getElem_toArray, List.getElem_cons_zero, List.getElem_cons_succ]
  have kz9 := kz8.below hb2 kz8.lt
  have b9 := b8.trans (hb2.mono b8.size)
  have XF9 := XF8.agree (Agree.of_below hb2 fun g hg => hg.2)
  have hz9 := hb2.size
  obtain ⟨_, n0, n1, n2, n3, n4, n5, n6, n7, n8⟩ := cells9 kz9
  have lz9 := kz9.lt
  have kN := nine_blk kz9 q (.slice AW9 nW9 cW9) (.slice AT9 nT9 cT9)
  have bN := nine_below b9 (B := w.heap.size) (g := w.heap.size + 1 + 1) (by omega) q (.slice AW9 nW9 cW9) (.slice AT9 nT9 cT9)
  have bM := fun (k : Nat) (hk : k ≠ w.heap.size + 1 + 1) => nine_heap wb2 (w.heap.size + 1 + 1) q (.slice AW9 nW9 cW9) (.slice AT9 nT9 cT9) k hk
  have zM := nine_size wb2 (w.heap.size + 1 + 1) q (.slice AW9 nW9 cW9) (.slice AT9 nT9 cT9)
  unfold nine at kN bN bM zM
  have HZM := vers.lay zM
  clear zM
  go_wp2_with fail
  refine hK.out _ _ (fun h => by simp at h) ?_
  clear hK K'
  try simp only [Act.put, List.setIfInBounds_toArray, List.set_cons_zero, List.set_cons_succ]
  generalize (((((((((World.setCell wb2 ⟨w.heap.size + 1 + 1, 0, none⟩ (.int .i64 q.a)).setCell ⟨w.heap.size + 1 + 1, 1, none⟩ (.int .i64 q.b)).setCell ⟨w.heap.size + 1 + 1, 2, none⟩ (.int .i64 q.c)).setCell ⟨w.heap.size + 1 + 1, 3, none⟩ (.int .i64 q.d)).setCell ⟨w.heap.size + 1 + 1, 4, none⟩ (.int .i64 q.e)).setCell ⟨w.heap.size + 1 + 1, 5, none⟩ (.int .i64 q.f)).setCell ⟨w.heap.size + 1 + 1, 6, none⟩ (.int .i64 q.h)).setCell ⟨w.heap.size + 1 + 1, 7, none⟩ (.slice AW9 nW9 cW9)).setCell ⟨w.heap.size + 1 + 1, 8, none⟩ (.slice AT9 nT9 cT9)) = W9 at kN bN bM HZM ⊢
  refine mix.D_op (k := 14) rfl rfl (by kernel_rfl) (fun K' hK => ?_)
  simp only [List.getElem_toArray, List.getElem_cons_zero, List.getElem_cons_succ]
  go_wp2_with fail
  refine hK.out _ _ (fun h => by simp at h) ?_
  clear hK K'
  refine mix.D_done (by kernel_rfl) ?_ _
  obtain ⟨⟨v0, v1, v2, v3, v4, v5, v6, v7, v8⟩, _⟩ := cells9 kN
  have HFIN : Hid (∃ AX9 cX9, Value.slice AW9 nW9 cW9 = .slice AX9 (insE (⟨r1.s, r1.k, AU, cU⟩ : E) (delE es r1.s)).length cX9 ∧ RAt W9 (NewB F w W9) (insE (⟨r1.s, r1.k, AU, cU⟩ : E) (delE es r1.s)) AX9 cX9 (.slice AT9 nT9 cT9) (put L (o.s, r1.k)) (insD (bn o.v) P false)) := vers.lay (by
    have zM := HZM.out
    have hrs := HRR.out
    have h3 := zc1.out
    have h4 := zt2.out
    have hl8 : w.heap.size + 1 + 1 < w8.heap.size := kz8.lt
    obtain ⟨AX9, cX9, eX, hX⟩ := rat_row hR bN hrW2 (fun g hg => by
      have h1 := hoW1 g hg
      have h2 := (hrW2.lt g hg).2
      exact ⟨bM g (by omega), by omega, by omega⟩) (by rw [insE_len]; have := delE_le es r1.s; omega) (fun y hy => by
      rcases insE_mem _ _ _ hy with rfl | hy
      · exact ⟨(XF9.agree (fun g hg => bM g (by omega))).mono (fun g hg => .inr ⟨by omega, by omega⟩), by show r1.s.size ≤ maxLen; rw [hrs]; exact hos⟩
      · have hm := (List.mem_filter.1 hy).1
        exact ⟨((hR.es_.2.2.2.2 y hm).1.agree (Agree.of_below bN hR.flt)).mono (fun g hg => .inl hg), (hR.es_.2.2.2.2 y hm).2⟩) (((TxF.of hT2).agree (fun g hg => bM g (by omega))).mono (fun g hg => .inr ⟨by omega, by omega⟩))
    refine ⟨AX9, cX9, eX, ?_⟩
    rw [insE_pe, delE_pe, hR.pe_] at hX
    have e9 : (pe (⟨r1.s, r1.k, AU, cU⟩ : E)) = (o.s, r1.k) := by show (r1.s, r1.k) = _; rw [hrs]
    rw [e9, hrs] at hX
    rw [hrs]
    exact hX)
  go_wp2_with fail
  obtain ⟨AX9, cX9, eX, hX⟩ := HFIN.out
  refine bodyPost_ret (v := .tuple #[RV q (.slice AW9 nW9 cW9) (.slice AT9 nT9 cT9), .int .i64 0]) (by simp [results, Try.results71, go_sem, v0, v1, v2, v3, v4, v5, v6, v7, v8]) rfl ⟨_, AX9, cX9, _, by rw [eX], bN, hX⟩

set_option maxRecDepth 100000 in
set_option maxHeartbeats 4000000 in
theorem call_put_h (q : Qt) (o : O) (es : List E) (A : Option Addr) (c : Nat) (v : Value) (L : List PB) (P : List (List UInt8)) (w : World) (F : Nat → Prop) (hR : RAt w F es A c v L P) (h1 : rightO q o = 0) (hk3 : o.k ≠ 3) (hk2 : o.k = 2) (hl : (lk L o.s).isSome = false) (hf : (L.length : Int) < q.a) (hbad : (addP q.a q.b q.c q.d q.e q.f q.h o.s ((lk L o.s).getD []) o.v o.t 1).bad = 0) (hfit : o.v.size ≤ maxLen ∧ o.t.size ≤ maxLen) (hos : o.s.size ≤ maxLen) (hlen : es.length ≤ 1000) (hPl : P.length ≤ 4000000) :
    Calls Try.prog 71 #[RV q (.slice A es.length c) v, .agg #[.int .i64 o.k, .string o.s, .string o.v, .string o.t]] w (CPost w q F (put L (o.s, (addP q.a q.b q.c q.d q.e q.f q.h o.s ((lk L o.s).getD []) o.v o.t 1).k)) (insD (bn o.v) P false) 0) := by
  obtain ⟨vA, vn, vc, rfl⟩ := hR.txt.shape
  obtain ⟨rn, rl, HG, HRL⟩ : ∃ rn rl, getP L o.s = (rn, rl, false) ∧ (lk L o.s).getD [] = rl := by
    unfold getP
    cases hll : lk L o.s with
    | none => exact ⟨_, _, rfl, rfl⟩
    | some l => rw [hll] at hl; cases hl
  rw [HRL] at hbad ⊢
  have HBAD := vers.lay hbad
  clear hbad
  have HRS := @addP_name q.a q.b q.c q.d q.e q.f q.h o.s rl o.v o.t 1
  have d3 := eq_no hk3
  have d2 := eq_yes hk2
  have hel : L.length = es.length := by rw [← hR.pe_, List.length_map]
  have d4 : decide (q.a ≤ (es.length : Int)) = false := decide_eq_false (by omega)
  clear hel hf
  clear hk3 hk2 hl HRL
  have kb := ((Blk.new w 66 (RC q (.slice A es.length c) (.slice vA vn vc))).alloc (.cells (oc o) 92)).alloc (.cells Z9 66)
  have ko := (Blk.new (w.alloc (.cells (RC q (.slice A es.length c) (.slice vA vn vc)) 66)) 92 (oc o)).alloc (.cells Z9 66)
  have kz := Blk.new ((w.alloc (.cells (RC q (.slice A es.length c) (.slice vA vn vc)) 66)).alloc (.cells (oc o) 92)) 66 Z9
  simp only [World.size_alloc] at ko kz
  have b0 : Below w.heap.size w (((w.alloc (.cells (RC q (.slice A es.length c) (.slice vA vn vc)) 66)).alloc (.cells (oc o) 92)).alloc (.cells Z9 66)) := (((Below.refl _ _).alloc (Nat.le_refl _) _).alloc (by simp) _).alloc (by simp; omega) _
  go_enter Try.func71, Try.ntmps71
  go_upto_region 1 with (fail)
  generalize ((w.alloc (.cells (RC q (.slice A es.length c) (.slice vA vn vc)) 66)).alloc (.cells (oc o) 92)).alloc (.cells Z9 66) = W at *
  have hf := form_any q o W
  obtain ⟨⟨x0, x1, x2, x3, x4, x5, x6, x7, x8⟩, _⟩ := cells9 kb
  obtain ⟨o0, o1, o2, o3⟩ := ocells ko
  have lb := kb.lt
  have lo := ko.lt
  have lz := kz.lt
  go_wp2_with fail
  refine hf.mono ?_
  rintro e w1 ⟨rfl, hb1⟩
  rw [h1]
  have b1 := b0.trans (hb1.mono b0.size)
  clear x0 x1 x2 x3 x4 x5 x6 x7 x8 o0 o1 o2 o3
  have kb1 := kb.below hb1 kb.lt
  have ko1 := ko.below hb1 ko.lt
  have kz1 := kz.below hb1 kz.lt
  obtain ⟨⟨x0, x1, x2, x3, x4, x5, x6, x7, x8⟩, _⟩ := cells9 kb1
  obtain ⟨o0, o1, o2, o3⟩ := ocells ko1
  have lb1 := kb1.lt
  have lo1 := ko1.lt
  have lz1 := kz1.lt
  clear hf lb lo lz kb ko kz
  have hR1 := hR.now (b1.mono (Nat.le_refl _))
  have hg := refGet_any es A c o.s w1 hR1.es_.es
  rw [hR.pe_, HG] at hg
  clear h1
  go_wp2_with fail
  refine hg.mono ?_
  rintro e w2 ⟨hb2, A2, c2, rfl, hO2⟩
  simp only [] at hO2
  have b2 := b1.trans (hb2.mono b1.size)
  clear x0 x1 x2 x3 x4 x5 x6 x7 x8 o0 o1 o2 o3
  have kb2 := kb1.below hb2 kb1.lt
  have ko2 := ko1.below hb2 ko1.lt
  have kz2 := kz1.below hb2 kz1.lt
  have bY : Below w2.heap.size w2 (w2.alloc (.cells #[.string rn, .slice A2 rl.length c2] 79)) := (Below.refl _ _).alloc (Nat.le_refl _) _
  have kY3 := Blk.new w2 79 #[.string rn, .slice A2 rl.length c2]
  have b3 := b2.trans (bY.mono b2.size)
  have hO3 := hO2.agree (Agree.of_below bY fun g hg => hg.2)
  have hR3 := hR.now b3
  have kb3 := kb2.below bY kb2.lt
  have ko3 := ko2.below bY ko2.lt
  have kz3 := kz2.below bY kz2.lt
  generalize hWY : w2.alloc (.cells #[.string rn, .slice A2 rl.length c2] 79) = w3 at *
  have y0 := kY3.cell 0
  have y1 := kY3.cell 1
  simp only [List.getElem?_toArray, List.getElem?_cons_zero, List.getElem?_cons_succ] at y0 y1
  have f0 := kY3.frozen 0
  have f1 := kY3.frozen 1
  have lY3 := kY3.lt
  clear kb1 ko1 kz1 lb1 lo1 lz1 hg hO2
  obtain ⟨⟨x0, x1, x2, x3, x4, x5, x6, x7, x8⟩, _⟩ := cells9 kb3
  obtain ⟨o0, o1, o2, o3⟩ := ocells ko3
  have lb3 := kb3.lt
  have lo3 := ko3.lt
  have lz3 := kz3.lt
  go_upto_region 12 with (fail)
  have kY4 : Blk (w3.setCell ⟨w2.heap.size, 0, none⟩ (.string o.s)) w2.heap.size 79 #[.string o.s, .slice A2 rl.length c2] := by have := kY3.put 0 (.string o.s); simpa using this
  have hlt2 : w.heap.size + 1 + 1 < w2.heap.size := by have := kb2.lt; have := ko2.lt; have := kz2.lt; omega
  have kb4 := kb3.far (p := ⟨w2.heap.size, 0, none⟩) (by simp; omega) (.string o.s)
  have ko4 := ko3.far (p := ⟨w2.heap.size, 0, none⟩) (by simp; omega) (.string o.s)
  have kz4 := kz3.far (p := ⟨w2.heap.size, 0, none⟩) (by simp; omega) (.string o.s)
  have b4 : Below w.heap.size w (w3.setCell ⟨w2.heap.size, 0, none⟩ (.string o.s)) := b3.setCell (p := ⟨w2.heap.size, 0, none⟩) (by simp; omega) _
  have hV4 : Vs (w3.setCell ⟨w2.heap.size, 0, none⟩ (.string o.s)) (w3.setCell ⟨w2.heap.size, 0, none⟩ (.string o.s)).heap.size rl A2 c2 := (hO3.agree (fun g hg => Below.heap_setCell _ _ _ _ (by simp; omega))).vs.vs
  clear x0 x1 x2 x3 x4 x5 x6 x7 x8 o0 o1 o2 o3 y0 y1 f0 f1 lb3 lo3 lz3 lY3 kb3 ko3 kz3 kY3 hO3 hR3
  generalize w3.setCell ⟨w2.heap.size, 0, none⟩ (.string o.s) = w4 at *
  obtain ⟨⟨x0, x1, x2, x3, x4, x5, x6, x7, x8⟩, _⟩ := cells9 kb4
  obtain ⟨o0, o1, o2, o3⟩ := ocells ko4
  have lb4 := kb4.lt
  have lo4 := ko4.lt
  have lz4 := kz4.lt
  have y0 := kY4.cell 0
  have y1 := kY4.cell 1
  simp only [List.getElem?_toArray, List.getElem?_cons_zero, List.getElem?_cons_succ] at y0 y1
  have lY4 := kY4.lt
  have hp := refPut_any q.a q.b q.c q.d q.e q.f q.h o.s rl A2 c2 o.v o.t w4 hV4 hfit
  generalize addP q.a q.b q.c q.d q.e q.f q.h o.s rl o.v o.t q.e = r0 at *
  go_wp2_with fail
  refine hp.mono ?_
  rintro e w5 ⟨_, _, rfl, hb5, ⟨AX, cX, rfl, hVX, hlX⟩, ⟨AY, cY, rfl, _, _⟩⟩
  have b5 := b4.trans (hb5.mono b4.size)
  have hV5 := hV4.at_world hb5
  clear x0 x1 x2 x3 x4 x5 x6 x7 x8 o0 o1 o2 o3
  clear y0 y1 hp hV4
  have kb5 := kb4.below hb5 kb4.lt
  have ko5 := ko4.below hb5 ko4.lt
  have kz5 := kz4.below hb5 kz4.lt
  have kY5 := kY4.below hb5 kY4.lt
  have bZ : Below w5.heap.size w5 (w5.alloc (.cells #[.string r0.s, .slice AX r0.k.length cX, .slice AY r0.d.length cY, .int .i64 r0.bad] 173)) := (Below.refl _ _).alloc (Nat.le_refl _) _
  have kA6 := Blk.new w5 173 #[.string r0.s, .slice AX r0.k.length cX, .slice AY r0.d.length cY, .int .i64 r0.bad]
  have kb6 := kb5.below bZ kb5.lt
  have ko6 := ko5.below bZ ko5.lt
  have kz6 := kz5.below bZ kz5.lt
  have kY6 := kY5.below bZ kY5.lt
  have b6 := b5.trans (bZ.mono b5.size)
  have hV6 := hV5.at_world bZ
  have hs5 := hb5.size
  have XF6 : VsF (w5.alloc (.cells #[.string r0.s, .slice AX r0.k.length cX, .slice AY r0.d.length cY, .int .i64 r0.bad] 173)) (fun g => w.heap.size + 1 + 1 < g ∧ g < (w5.alloc (.cells #[.string r0.s, .slice AX r0.k.length cX, .slice AY r0.d.length cY, .int .i64 r0.bad] 173)).heap.size) r0.k AX cX := ((hv_vsF hVX hlX).agree (Agree.of_below bZ fun g hg => hg.2)).mono (fun g hg => ⟨by omega, by have := bZ.size; omega⟩)
  generalize hWZ : w5.alloc (.cells #[.string r0.s, .slice AX r0.k.length cX, .slice AY r0.d.length cY, .int .i64 r0.bad] 173) = w6 at *
  obtain ⟨⟨x0, x1, x2, x3, x4, x5, x6, x7, x8⟩, _⟩ := cells9 kb6
  obtain ⟨o0, o1, o2, o3⟩ := ocells ko6
  have lb6 := kb6.lt
  have lo6 := ko6.lt
  have lz6 := kz6.lt
  have y0 := kY6.cell 0
  have y1 := kY6.cell 1
  simp only [List.getElem?_toArray, List.getElem?_cons_zero, List.getElem?_cons_succ] at y0 y1
  have lY6 := kY6.lt
  obtain ⟨a0, a1, a2, a3⟩ := cells4 kA6
  have lA6 := kA6.lt
  have hq := refOver_any q.a q.b q.c q.d q.e q.f q.h o.s rl A2 c2 o.v o.t w6 hV6 hfit
  generalize addP q.a q.b q.c q.d q.e q.f q.h o.s rl o.v o.t 1 = r1 at *
  go_wp2_with fail
  refine hq.mono ?_
  rintro e w7 ⟨_, _, rfl, hb7, ⟨AU, cU, rfl, hVU, hlU⟩, ⟨AW, cW, rfl, _, _⟩⟩
  have b7 := b6.trans (hb7.mono b6.size)
  clear x0 x1 x2 x3 x4 x5 x6 x7 x8 o0 o1 o2 o3
  clear y0 y1 hq a0 a1 a2 a3
  have kb7 := kb6.below hb7 kb6.lt
  have ko7 := ko6.below hb7 ko6.lt
  have kz7 := kz6.below hb7 kz6.lt
  have kA7 := kA6.below hb7 kA6.lt
  obtain ⟨a0, a1, a2, a3⟩ := cells4 kA7
  have fa0 := kA7.frozen 0
  have fa1 := kA7.frozen 1
  have fa2 := kA7.frozen 2
  have fa3 := kA7.frozen 3
  have lA7 := kA7.lt
  have lb7 := kb7.lt
  have lo7 := ko7.lt
  go_upto_region 15 with (fail)
  have kA8 := put4 kA7 (.string r1.s) (.slice AU r1.k.length cU) (.slice AW r1.d.length cW) (.int .i64 r1.bad)
  have hgA : w.heap.size + 1 + 1 < w5.heap.size := by omega
  have bS : Below w5.heap.size w7 ((((w7.setCell ⟨w5.heap.size, 0, none⟩ (.string r1.s)).setCell ⟨w5.heap.size, 1, none⟩ (.slice AU r1.k.length cU)).setCell ⟨w5.heap.size, 2, none⟩ (.slice AW r1.d.length cW)).setCell ⟨w5.heap.size, 3, none⟩ (.int .i64 r1.bad)) := ((((Below.refl _ _).setCell (p := ⟨w5.heap.size, 0, none⟩) (by simp) _).setCell (p := ⟨w5.heap.size, 1, none⟩) (by simp) _).setCell (p := ⟨w5.heap.size, 2, none⟩) (by simp) _).setCell (p := ⟨w5.heap.size, 3, none⟩) (by simp) _
  have XF8 : VsF ((((w7.setCell ⟨w5.heap.size, 0, none⟩ (.string r1.s)).setCell ⟨w5.heap.size, 1, none⟩ (.slice AU r1.k.length cU)).setCell ⟨w5.heap.size, 2, none⟩ (.slice AW r1.d.length cW)).setCell ⟨w5.heap.size, 3, none⟩ (.int .i64 r1.bad)) (fun g => w.heap.size + 1 + 1 < g ∧ g < ((((w7.setCell ⟨w5.heap.size, 0, none⟩ (.string r1.s)).setCell ⟨w5.heap.size, 1, none⟩ (.slice AU r1.k.length cU)).setCell ⟨w5.heap.size, 2, none⟩ (.slice AW r1.d.length cW)).setCell ⟨w5.heap.size, 3, none⟩ (.int .i64 r1.bad)).heap.size) r1.k AU cU := by
    obtain ⟨A', c', e', hv, hl'⟩ := (show HV w6.heap.size w7 r1.k (.slice AU r1.k.length cU) from ⟨AU, cU, rfl, hVU, hlU⟩).setCell (p := ⟨w5.heap.size, 0, none⟩) (by simpa using lA6) (.string r1.s) |>.setCell (p := ⟨w5.heap.size, 1, none⟩) (by simpa using lA6) (.slice AU r1.k.length cU) |>.setCell (p := ⟨w5.heap.size, 2, none⟩) (by simpa using lA6) (.slice AW r1.d.length cW) |>.setCell (p := ⟨w5.heap.size, 3, none⟩) (by simpa using lA6) (.int .i64 r1.bad)
    cases e'
    exact (hv_vsF hv hl').mono (fun g hg => ⟨by omega, hg.2⟩)
  have kb8 := kb7.below bS (by omega)
  have ko8 := ko7.below bS (by omega)
  have kz8 := kz7.below bS (by omega)
  have b8 := b7.trans (bS.mono (by omega))
  clear a0 a1 a2 a3 fa0 fa1 fa2 fa3 lA7 lb7 lo7
  generalize (((w7.setCell ⟨w5.heap.size, 0, none⟩ (.string r1.s)).setCell ⟨w5.heap.size, 1, none⟩ (.slice AU r1.k.length cU)).setCell ⟨w5.heap.size, 2, none⟩ (.slice AW r1.d.length cW)).setCell ⟨w5.heap.size, 3, none⟩ (.int .i64 r1.bad) = w8 at *
  obtain ⟨⟨x0, x1, x2, x3, x4, x5, x6, x7, x8⟩, _⟩ := cells9 kb8
  obtain ⟨o0, o1, o2, o3⟩ := ocells ko8
  have lb8 := kb8.lt
  have lo8 := ko8.lt
  have lz8 := kz8.lt
  obtain ⟨a0, a1, a2, a3⟩ := cells4 kA8
  have lA8 := kA8.lt
  have hR8 := hR.now b8
  have d9 : (r1.bad != 0) = false := ne_no HBAD.out
  have HRR := vers.lay (HRS HBAD.out)
  clear HBAD HRS
  go_wp2_with fail
  have hS0 : Below w8.heap.size w8 w8.drew := (Below.refl _ _).drew
  refine mix.region_D (fun w' => Below w8.heap.size w8 w') (fun j => j == 13 || j == 14) (by kernel_rfl) ?_
  generalize w8.drew = w8d at hS0 ⊢
  refine mix.D_takeT (i := 0) (v := ?_) rfl (by kernel_rfl) (by kernel_rfl) (fun _ _ _ h => h) (Or.inl ⟨by rfl, ?_⟩) hS0 ?_
  rotate_left
  · intro w' hSw
    have y0 := (hSw.cell (p := ⟨w.heap.size, 0, none⟩) lb8).trans x0
    have y1 := (hSw.cell (p := ⟨w.heap.size, 1, none⟩) lb8).trans x1
    have y2 := (hSw.cell (p := ⟨w.heap.size, 2, none⟩) lb8).trans x2
    have y3 := (hSw.cell (p := ⟨w.heap.size, 3, none⟩) lb8).trans x3
    have y4 := (hSw.cell (p := ⟨w.heap.size, 4, none⟩) lb8).trans x4
    have y5 := (hSw.cell (p := ⟨w.heap.size, 5, none⟩) lb8).trans x5
    have y6 := (hSw.cell (p := ⟨w.heap.size, 6, none⟩) lb8).trans x6
    have y7 := (hSw.cell (p := ⟨w.heap.size, 7, none⟩) lb8).trans x7
    have y8 := (hSw.cell (p := ⟨w.heap.size, 8, none⟩) lb8).trans x8
    have y9 := (hSw.cell (p := ⟨w.heap.size + 1, 2, none⟩) lo8).trans o2
    have y10 := (hSw.cell (p := ⟨w5.heap.size, 0, none⟩) lA8).trans a0
    have y11 := (hSw.cell (p := ⟨w5.heap.size, 1, none⟩) lA8).trans a1
    try simp only [List.getElem_toArray, List.getElem_cons_zero, List.getElem_cons_succ]
    go_simp
    exact rfl
  try simp only [Act.put, List.setIfInBounds_toArray, List.set_cons_zero, List.set_cons_succ, List.getElem_toArray, List.getElem_cons_zero, List.getElem_cons_succ]
  refine mix.D_takeT (i := 1) (v := ?_) rfl (by kernel_rfl) (by kernel_rfl) (fun _ _ _ h => h) (Or.inl ⟨by rfl, ?_⟩) hS0 ?_
  rotate_left
  · intro w' hSw
    have y0 := (hSw.cell (p := ⟨w.heap.size, 0, none⟩) lb8).trans x0
    have y1 := (hSw.cell (p := ⟨w.heap.size, 1, none⟩) lb8).trans x1
    have y2 := (hSw.cell (p := ⟨w.heap.size, 2, none⟩) lb8).trans x2
    have y3 := (hSw.cell (p := ⟨w.heap.size, 3, none⟩) lb8).trans x3
    have y4 := (hSw.cell (p := ⟨w.heap.size, 4, none⟩) lb8).trans x4
    have y5 := (hSw.cell (p := ⟨w.heap.size, 5, none⟩) lb8).trans x5
    have y6 := (hSw.cell (p := ⟨w.heap.size, 6, none⟩) lb8).trans x6
    have y7 := (hSw.cell (p := ⟨w.heap.size, 7, none⟩) lb8).trans x7
    have y8 := (hSw.cell (p := ⟨w.heap.size, 8, none⟩) lb8).trans x8
    have y9 := (hSw.cell (p := ⟨w.heap.size + 1, 2, none⟩) lo8).trans o2
    have y10 := (hSw.cell (p := ⟨w5.heap.size, 0, none⟩) lA8).trans a0
    have y11 := (hSw.cell (p := ⟨w5.heap.size, 1, none⟩) lA8).trans a1
    try simp only [List.getElem_toArray, List.getElem_cons_zero, List.getElem_cons_succ]
    go_simp
    exact rfl
  try simp only [Act.put, List.setIfInBounds_toArray, List.set_cons_zero, List.set_cons_succ, List.getElem_toArray, List.getElem_cons_zero, List.getElem_cons_succ]
  refine mix.D_takeT (i := 2) (v := ?_) rfl (by kernel_rfl) (by kernel_rfl) (fun _ _ _ h => h) (Or.inl ⟨by rfl, ?_⟩) hS0 ?_
  rotate_left
  · intro w' hSw
    have y0 := (hSw.cell (p := ⟨w.heap.size, 0, none⟩) lb8).trans x0
    have y1 := (hSw.cell (p := ⟨w.heap.size, 1, none⟩) lb8).trans x1
    have y2 := (hSw.cell (p := ⟨w.heap.size, 2, none⟩) lb8).trans x2
    have y3 := (hSw.cell (p := ⟨w.heap.size, 3, none⟩) lb8).trans x3
    have y4 := (hSw.cell (p := ⟨w.heap.size, 4, none⟩) lb8).trans x4
    have y5 := (hSw.cell (p := ⟨w.heap.size, 5, none⟩) lb8).trans x5
    have y6 := (hSw.cell (p := ⟨w.heap.size, 6, none⟩) lb8).trans x6
    have y7 := (hSw.cell (p := ⟨w.heap.size, 7, none⟩) lb8).trans x7
    have y8 := (hSw.cell (p := ⟨w.heap.size, 8, none⟩) lb8).trans x8
    have y9 := (hSw.cell (p := ⟨w.heap.size + 1, 2, none⟩) lo8).trans o2
    have y10 := (hSw.cell (p := ⟨w5.heap.size, 0, none⟩) lA8).trans a0
    have y11 := (hSw.cell (p := ⟨w5.heap.size, 1, none⟩) lA8).trans a1
    try simp only [List.getElem_toArray, List.getElem_cons_zero, List.getElem_cons_succ]
    go_simp
    exact rfl
  try simp only [Act.put, List.setIfInBounds_toArray, List.set_cons_zero, List.set_cons_succ, List.getElem_toArray, List.getElem_cons_zero, List.getElem_cons_succ]
  refine mix.D_takeT (i := 3) (v := ?_) rfl (by kernel_rfl) (by kernel_rfl) (fun _ _ _ h => h) (Or.inl ⟨by rfl, ?_⟩) hS0 ?_
  rotate_left
  · intro w' hSw
    have y0 := (hSw.cell (p := ⟨w.heap.size, 0, none⟩) lb8).trans x0
    have y1 := (hSw.cell (p := ⟨w.heap.size, 1, none⟩) lb8).trans x1
    have y2 := (hSw.cell (p := ⟨w.heap.size, 2, none⟩) lb8).trans x2
    have y3 := (hSw.cell (p := ⟨w.heap.size, 3, none⟩) lb8).trans x3
    have y4 := (hSw.cell (p := ⟨w.heap.size, 4, none⟩) lb8).trans x4
    have y5 := (hSw.cell (p := ⟨w.heap.size, 5, none⟩) lb8).trans x5
    have y6 := (hSw.cell (p := ⟨w.heap.size, 6, none⟩) lb8).trans x6
    have y7 := (hSw.cell (p := ⟨w.heap.size, 7, none⟩) lb8).trans x7
    have y8 := (hSw.cell (p := ⟨w.heap.size, 8, none⟩) lb8).trans x8
    have y9 := (hSw.cell (p := ⟨w.heap.size + 1, 2, none⟩) lo8).trans o2
    have y10 := (hSw.cell (p := ⟨w5.heap.size, 0, none⟩) lA8).trans a0
    have y11 := (hSw.cell (p := ⟨w5.heap.size, 1, none⟩) lA8).trans a1
    try simp only [List.getElem_toArray, List.getElem_cons_zero, List.getElem_cons_succ]
    go_simp
    exact rfl
  try simp only [Act.put, List.setIfInBounds_toArray, List.set_cons_zero, List.set_cons_succ, List.getElem_toArray, List.getElem_cons_zero, List.getElem_cons_succ]
  refine mix.D_takeT (i := 4) (v := ?_) rfl (by kernel_rfl) (by kernel_rfl) (fun _ _ _ h => h) (Or.inl ⟨by rfl, ?_⟩) hS0 ?_
  rotate_left
  · intro w' hSw
    have y0 := (hSw.cell (p := ⟨w.heap.size, 0, none⟩) lb8).trans x0
    have y1 := (hSw.cell (p := ⟨w.heap.size, 1, none⟩) lb8).trans x1
    have y2 := (hSw.cell (p := ⟨w.heap.size, 2, none⟩) lb8).trans x2
    have y3 := (hSw.cell (p := ⟨w.heap.size, 3, none⟩) lb8).trans x3
    have y4 := (hSw.cell (p := ⟨w.heap.size, 4, none⟩) lb8).trans x4
    have y5 := (hSw.cell (p := ⟨w.heap.size, 5, none⟩) lb8).trans x5
    have y6 := (hSw.cell (p := ⟨w.heap.size, 6, none⟩) lb8).trans x6
    have y7 := (hSw.cell (p := ⟨w.heap.size, 7, none⟩) lb8).trans x7
    have y8 := (hSw.cell (p := ⟨w.heap.size, 8, none⟩) lb8).trans x8
    have y9 := (hSw.cell (p := ⟨w.heap.size + 1, 2, none⟩) lo8).trans o2
    have y10 := (hSw.cell (p := ⟨w5.heap.size, 0, none⟩) lA8).trans a0
    have y11 := (hSw.cell (p := ⟨w5.heap.size, 1, none⟩) lA8).trans a1
    try simp only [List.getElem_toArray, List.getElem_cons_zero, List.getElem_cons_succ]
    go_simp
    exact rfl
  try simp only [Act.put, List.setIfInBounds_toArray, List.set_cons_zero, List.set_cons_succ, List.getElem_toArray, List.getElem_cons_zero, List.getElem_cons_succ]
  refine mix.D_takeT (i := 5) (v := ?_) rfl (by kernel_rfl) (by kernel_rfl) (fun _ _ _ h => h) (Or.inl ⟨by rfl, ?_⟩) hS0 ?_
  rotate_left
  · intro w' hSw
    have y0 := (hSw.cell (p := ⟨w.heap.size, 0, none⟩) lb8).trans x0
    have y1 := (hSw.cell (p := ⟨w.heap.size, 1, none⟩) lb8).trans x1
    have y2 := (hSw.cell (p := ⟨w.heap.size, 2, none⟩) lb8).trans x2
    have y3 := (hSw.cell (p := ⟨w.heap.size, 3, none⟩) lb8).trans x3
    have y4 := (hSw.cell (p := ⟨w.heap.size, 4, none⟩) lb8).trans x4
    have y5 := (hSw.cell (p := ⟨w.heap.size, 5, none⟩) lb8).trans x5
    have y6 := (hSw.cell (p := ⟨w.heap.size, 6, none⟩) lb8).trans x6
    have y7 := (hSw.cell (p := ⟨w.heap.size, 7, none⟩) lb8).trans x7
    have y8 := (hSw.cell (p := ⟨w.heap.size, 8, none⟩) lb8).trans x8
    have y9 := (hSw.cell (p := ⟨w.heap.size + 1, 2, none⟩) lo8).trans o2
    have y10 := (hSw.cell (p := ⟨w5.heap.size, 0, none⟩) lA8).trans a0
    have y11 := (hSw.cell (p := ⟨w5.heap.size, 1, none⟩) lA8).trans a1
    try simp only [List.getElem_toArray, List.getElem_cons_zero, List.getElem_cons_succ]
    go_simp
    exact rfl
  try simp only [Act.put, List.setIfInBounds_toArray, List.set_cons_zero, List.set_cons_succ, List.getElem_toArray, List.getElem_cons_zero, List.getElem_cons_succ]
  refine mix.D_takeT (i := 7) (v := ?_) rfl (by kernel_rfl) (by kernel_rfl) (fun _ _ _ h => h) (Or.inl ⟨by rfl, ?_⟩) hS0 ?_
  rotate_left
  · intro w' hSw
    have y0 := (hSw.cell (p := ⟨w.heap.size, 0, none⟩) lb8).trans x0
    have y1 := (hSw.cell (p := ⟨w.heap.size, 1, none⟩) lb8).trans x1
    have y2 := (hSw.cell (p := ⟨w.heap.size, 2, none⟩) lb8).trans x2
    have y3 := (hSw.cell (p := ⟨w.heap.size, 3, none⟩) lb8).trans x3
    have y4 := (hSw.cell (p := ⟨w.heap.size, 4, none⟩) lb8).trans x4
    have y5 := (hSw.cell (p := ⟨w.heap.size, 5, none⟩) lb8).trans x5
    have y6 := (hSw.cell (p := ⟨w.heap.size, 6, none⟩) lb8).trans x6
    have y7 := (hSw.cell (p := ⟨w.heap.size, 7, none⟩) lb8).trans x7
    have y8 := (hSw.cell (p := ⟨w.heap.size, 8, none⟩) lb8).trans x8
    have y9 := (hSw.cell (p := ⟨w.heap.size + 1, 2, none⟩) lo8).trans o2
    have y10 := (hSw.cell (p := ⟨w5.heap.size, 0, none⟩) lA8).trans a0
    have y11 := (hSw.cell (p := ⟨w5.heap.size, 1, none⟩) lA8).trans a1
    try simp only [List.getElem_toArray, List.getElem_cons_zero, List.getElem_cons_succ]
    go_simp
    exact rfl
  try simp only [Act.put, List.setIfInBounds_toArray, List.set_cons_zero, List.set_cons_succ, List.getElem_toArray, List.getElem_cons_zero, List.getElem_cons_succ]
  refine mix.D_takeT (i := 8) (v := ?_) rfl (by kernel_rfl) (by kernel_rfl) (fun _ _ _ h => h) (Or.inl ⟨by rfl, ?_⟩) hS0 ?_
  rotate_left
  · intro w' hSw
    have y0 := (hSw.cell (p := ⟨w.heap.size, 0, none⟩) lb8).trans x0
    have y1 := (hSw.cell (p := ⟨w.heap.size, 1, none⟩) lb8).trans x1
    have y2 := (hSw.cell (p := ⟨w.heap.size, 2, none⟩) lb8).trans x2
    have y3 := (hSw.cell (p := ⟨w.heap.size, 3, none⟩) lb8).trans x3
    have y4 := (hSw.cell (p := ⟨w.heap.size, 4, none⟩) lb8).trans x4
    have y5 := (hSw.cell (p := ⟨w.heap.size, 5, none⟩) lb8).trans x5
    have y6 := (hSw.cell (p := ⟨w.heap.size, 6, none⟩) lb8).trans x6
    have y7 := (hSw.cell (p := ⟨w.heap.size, 7, none⟩) lb8).trans x7
    have y8 := (hSw.cell (p := ⟨w.heap.size, 8, none⟩) lb8).trans x8
    have y9 := (hSw.cell (p := ⟨w.heap.size + 1, 2, none⟩) lo8).trans o2
    have y10 := (hSw.cell (p := ⟨w5.heap.size, 0, none⟩) lA8).trans a0
    have y11 := (hSw.cell (p := ⟨w5.heap.size, 1, none⟩) lA8).trans a1
    try simp only [List.getElem_toArray, List.getElem_cons_zero, List.getElem_cons_succ]
    go_simp
    exact rfl
  try simp only [Act.put, List.setIfInBounds_toArray, List.set_cons_zero, List.set_cons_succ, List.getElem_toArray, List.getElem_cons_zero, List.getElem_cons_succ]
  refine mix.D_takeT (i := 9) (v := ?_) rfl (by kernel_rfl) (by kernel_rfl) (fun _ _ _ h => h) (Or.inl ⟨by rfl, ?_⟩) hS0 ?_
  rotate_left
  · intro w' hSw
    have y0 := (hSw.cell (p := ⟨w.heap.size, 0, none⟩) lb8).trans x0
    have y1 := (hSw.cell (p := ⟨w.heap.size, 1, none⟩) lb8).trans x1
    have y2 := (hSw.cell (p := ⟨w.heap.size, 2, none⟩) lb8).trans x2
    have y3 := (hSw.cell (p := ⟨w.heap.size, 3, none⟩) lb8).trans x3
    have y4 := (hSw.cell (p := ⟨w.heap.size, 4, none⟩) lb8).trans x4
    have y5 := (hSw.cell (p := ⟨w.heap.size, 5, none⟩) lb8).trans x5
    have y6 := (hSw.cell (p := ⟨w.heap.size, 6, none⟩) lb8).trans x6
    have y7 := (hSw.cell (p := ⟨w.heap.size, 7, none⟩) lb8).trans x7
    have y8 := (hSw.cell (p := ⟨w.heap.size, 8, none⟩) lb8).trans x8
    have y9 := (hSw.cell (p := ⟨w.heap.size + 1, 2, none⟩) lo8).trans o2
    have y10 := (hSw.cell (p := ⟨w5.heap.size, 0, none⟩) lA8).trans a0
    have y11 := (hSw.cell (p := ⟨w5.heap.size, 1, none⟩) lA8).trans a1
    try simp only [List.getElem_toArray, List.getElem_cons_zero, List.getElem_cons_succ]
    go_simp
    exact rfl
  try simp only [Act.put, List.setIfInBounds_toArray, List.set_cons_zero, List.set_cons_succ, List.getElem_toArray, List.getElem_cons_zero, List.getElem_cons_succ]
  refine mix.D_takeT (i := 10) (v := ?_) rfl (by kernel_rfl) (by kernel_rfl) (fun _ _ _ h => h) (Or.inl ⟨by rfl, ?_⟩) hS0 ?_
  rotate_left
  · intro w' hSw
    have y0 := (hSw.cell (p := ⟨w.heap.size, 0, none⟩) lb8).trans x0
    have y1 := (hSw.cell (p := ⟨w.heap.size, 1, none⟩) lb8).trans x1
    have y2 := (hSw.cell (p := ⟨w.heap.size, 2, none⟩) lb8).trans x2
    have y3 := (hSw.cell (p := ⟨w.heap.size, 3, none⟩) lb8).trans x3
    have y4 := (hSw.cell (p := ⟨w.heap.size, 4, none⟩) lb8).trans x4
    have y5 := (hSw.cell (p := ⟨w.heap.size, 5, none⟩) lb8).trans x5
    have y6 := (hSw.cell (p := ⟨w.heap.size, 6, none⟩) lb8).trans x6
    have y7 := (hSw.cell (p := ⟨w.heap.size, 7, none⟩) lb8).trans x7
    have y8 := (hSw.cell (p := ⟨w.heap.size, 8, none⟩) lb8).trans x8
    have y9 := (hSw.cell (p := ⟨w.heap.size + 1, 2, none⟩) lo8).trans o2
    have y10 := (hSw.cell (p := ⟨w5.heap.size, 0, none⟩) lA8).trans a0
    have y11 := (hSw.cell (p := ⟨w5.heap.size, 1, none⟩) lA8).trans a1
    try simp only [List.getElem_toArray, List.getElem_cons_zero, List.getElem_cons_succ]
    go_simp
    exact rfl
  try simp only [Act.put, List.setIfInBounds_toArray, List.set_cons_zero, List.set_cons_succ, List.getElem_toArray, List.getElem_cons_zero, List.getElem_cons_succ]
  refine mix.D_op (k := 6) rfl rfl (by kernel_rfl) (fun K' hK => ?_)
  simp only [List.getElem_toArray, List.getElem_cons_zero, List.getElem_cons_succ]
  go_wp2_with fail
  refine (with_any es A c (⟨r1.s, r1.k, AU, cU⟩ : E) _ (hR8.now hS0).es_.es hlen).mono ?_
  rintro e wb1 ⟨vW, rfl, hs1, hrW1, hoW1⟩
  obtain ⟨AW9, nW9, cW9, rfl⟩ := row_shape hrW1
  have zc1 := vers.lay (show w8.heap.size ≤ w8d.heap.size from hS0.size)
  have hb1 : Below w8.heap.size w8 wb1 := hS0.trans (hs1.mono hS0.size)
  refine hK.out _ _ (fun _ => hb1) ?_
  clear hK K'
  try simp only [Act.put, List.setIfInBounds_toArray, List.set_cons_zero, List.set_cons_succ]
  refine mix.D_op (k := 11) rfl rfl (by kernel_rfl) (fun K' hK => ?_)
  simp only [List.getElem_toArray, List.getElem_cons_zero, List.getElem_cons_succ]
  go_wp2_with fail
  refine (insert_lo (.slice vA vn vc) 0 P o.v _ (hR8.now hb1).txt.txt hPl).mono ?_
  rintro e wb2 ⟨vT, rfl, hs2, hT2⟩
  obtain ⟨AT9, nT9, cT9, rfl⟩ := (TxF.of hT2).shape
  have zt2 := vers.lay (show w8.heap.size ≤ wb1.heap.size from hb1.size)
  have hrW2 := row_below hrW1 hs2
  have hb2 : Below w8.heap.size w8 wb2 := hb1.trans (hs2.mono hb1.size)
  refine hK.out _ _ (fun _ => hb2) ?_
  clear hK K'
  try simp only [Act.put, List.setIfInBounds_toArray, List.set_cons_zero, List.set_cons_succ]
  refine mix.D_takeT (i := 12) (v := ?_) rfl (by kernel_rfl) (by kernel_rfl) (fun _ _ _ h => h) (Or.inl ⟨by rfl, ?_⟩) hb2 ?_
  rotate_left
  · intro w' hSw
    have y0 := (hSw.cell (p := ⟨w.heap.size, 0, none⟩) lb8).trans x0
    have y1 := (hSw.cell (p := ⟨w.heap.size, 1, none⟩) lb8).trans x1
    have y2 := (hSw.cell (p := ⟨w.heap.size, 2, none⟩) lb8).trans x2
    have y3 := (hSw.cell (p := ⟨w.heap.size, 3, none⟩) lb8).trans x3
    have y4 := (hSw.cell (p := ⟨w.heap.size, 4, none⟩) lb8).trans x4
    have y5 := (hSw.cell (p := ⟨w.heap.size, 5, none⟩) lb8).trans x5
    have y6 := (hSw.cell (p := ⟨w.heap.size, 6, none⟩) lb8).trans x6
    have y7 := (hSw.cell (p := ⟨w.heap.size, 7, none⟩) lb8).trans x7
    have y8 := (hSw.cell (p := ⟨w.heap.size, 8, none⟩) lb8).trans x8
    have y9 := (hSw.cell (p := ⟨w.heap.size + 1, 2, none⟩) lo8).trans o2
    have y10 := (hSw.cell (p := ⟨w5.heap.size, 0, none⟩) lA8).trans a0
    have y11 := (hSw.cell (p := ⟨w5.heap.size, 1, none⟩) lA8).trans a1
    try simp only [List.getElem_toArray, List.getElem_cons_zero, List.getElem_cons_succ]
    go_simp
    exact rfl
  try simp only [Act.put, List.setIfInBounds_toArray, List.set_cons_zero, List.set_cons_succ, List.getElem_toArray, List.getElem_cons_zero, List.getElem_cons_succ]
  refine mix.D_op (k := 13) rfl rfl (by kernel_rfl) (fun K' hK => ?_)
  simp only [List.getElem_toArray, List.getElem_cons_zero, List.getElem_cons_succ]
  have kz9 := kz8.below hb2 kz8.lt
  have b9 := b8.trans (hb2.mono b8.size)
  have XF9 := XF8.agree (Agree.of_below hb2 fun g hg => hg.2)
  have hz9 := hb2.size
  obtain ⟨_, n0, n1, n2, n3, n4, n5, n6, n7, n8⟩ := cells9 kz9
  have lz9 := kz9.lt
  have kN := nine_blk kz9 q (.slice AW9 nW9 cW9) (.slice AT9 nT9 cT9)
  have bN := nine_below b9 (B := w.heap.size) (g := w.heap.size + 1 + 1) (by omega) q (.slice AW9 nW9 cW9) (.slice AT9 nT9 cT9)
  have bM := fun (k : Nat) (hk : k ≠ w.heap.size + 1 + 1) => nine_heap wb2 (w.heap.size + 1 + 1) q (.slice AW9 nW9 cW9) (.slice AT9 nT9 cT9) k hk
  have zM := nine_size wb2 (w.heap.size + 1 + 1) q (.slice AW9 nW9 cW9) (.slice AT9 nT9 cT9)
  unfold nine at kN bN bM zM
  have HZM := vers.lay zM
  clear zM
  go_wp2_with fail
  refine hK.out _ _ (fun h => by simp at h) ?_
  clear hK K'
  try simp only [Act.put, List.setIfInBounds_toArray, List.set_cons_zero, List.set_cons_succ]
  generalize (((((((((World.setCell wb2 ⟨w.heap.size + 1 + 1, 0, none⟩ (.int .i64 q.a)).setCell ⟨w.heap.size + 1 + 1, 1, none⟩ (.int .i64 q.b)).setCell ⟨w.heap.size + 1 + 1, 2, none⟩ (.int .i64 q.c)).setCell ⟨w.heap.size + 1 + 1, 3, none⟩ (.int .i64 q.d)).setCell ⟨w.heap.size + 1 + 1, 4, none⟩ (.int .i64 q.e)).setCell ⟨w.heap.size + 1 + 1, 5, none⟩ (.int .i64 q.f)).setCell ⟨w.heap.size + 1 + 1, 6, none⟩ (.int .i64 q.h)).setCell ⟨w.heap.size + 1 + 1, 7, none⟩ (.slice AW9 nW9 cW9)).setCell ⟨w.heap.size + 1 + 1, 8, none⟩ (.slice AT9 nT9 cT9)) = W9 at kN bN bM HZM ⊢
  refine mix.D_op (k := 14) rfl rfl (by kernel_rfl) (fun K' hK => ?_)
  simp only [List.getElem_toArray, List.getElem_cons_zero, List.getElem_cons_succ]
  go_wp2_with fail
  refine hK.out _ _ (fun h => by simp at h) ?_
  clear hK K'
  refine mix.D_done (by kernel_rfl) ?_ _
  obtain ⟨⟨v0, v1, v2, v3, v4, v5, v6, v7, v8⟩, _⟩ := cells9 kN
  have HFIN : Hid (∃ AX9 cX9, Value.slice AW9 nW9 cW9 = .slice AX9 (insE (⟨r1.s, r1.k, AU, cU⟩ : E) (delE es r1.s)).length cX9 ∧ RAt W9 (NewB F w W9) (insE (⟨r1.s, r1.k, AU, cU⟩ : E) (delE es r1.s)) AX9 cX9 (.slice AT9 nT9 cT9) (put L (o.s, r1.k)) (insD (bn o.v) P false)) := vers.lay (by
    have zM := HZM.out
    have hrs := HRR.out
    have h3 := zc1.out
    have h4 := zt2.out
    have hl8 : w.heap.size + 1 + 1 < w8.heap.size := kz8.lt
    obtain ⟨AX9, cX9, eX, hX⟩ := rat_row hR bN hrW2 (fun g hg => by
      have h1 := hoW1 g hg
      have h2 := (hrW2.lt g hg).2
      exact ⟨bM g (by omega), by omega, by omega⟩) (by rw [insE_len]; have := delE_le es r1.s; omega) (fun y hy => by
      rcases insE_mem _ _ _ hy with rfl | hy
      · exact ⟨(XF9.agree (fun g hg => bM g (by omega))).mono (fun g hg => .inr ⟨by omega, by omega⟩), by show r1.s.size ≤ maxLen; rw [hrs]; exact hos⟩
      · have hm := (List.mem_filter.1 hy).1
        exact ⟨((hR.es_.2.2.2.2 y hm).1.agree (Agree.of_below bN hR.flt)).mono (fun g hg => .inl hg), (hR.es_.2.2.2.2 y hm).2⟩) (((TxF.of hT2).agree (fun g hg => bM g (by omega))).mono (fun g hg => .inr ⟨by omega, by omega⟩))
    refine ⟨AX9, cX9, eX, ?_⟩
    rw [insE_pe, delE_pe, hR.pe_] at hX
    have e9 : (pe (⟨r1.s, r1.k, AU, cU⟩ : E)) = (o.s, r1.k) := by show (r1.s, r1.k) = _; rw [hrs]
    rw [e9, hrs] at hX
    rw [hrs]
    exact hX)
  go_wp2_with fail
  obtain ⟨AX9, cX9, eX, hX⟩ := HFIN.out
  refine bodyPost_ret (v := .tuple #[RV q (.slice AW9 nW9 cW9) (.slice AT9 nT9 cT9), .int .i64 0]) (by simp [results, Try.results71, go_sem, v0, v1, v2, v3, v4, v5, v6, v7, v8]) rfl ⟨_, AX9, cX9, _, by rw [eX], bN, hX⟩

end Go.Proofs.Ytjlglfjikfpboaa.books
