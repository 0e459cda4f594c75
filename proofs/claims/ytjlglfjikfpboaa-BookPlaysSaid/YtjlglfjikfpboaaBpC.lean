/- The document's Call. -/
import Derived.Test.YtjlglfjikfpboaaBpB
import Derived.Test.YtjlglfjikfpboaaBkV


namespace Go.Proofs.Ytjlglfjikfpboaa.books
set_option linter.unusedVariables false
set_option linter.unusedSimpArgs false
open Go.RowKit Go.Shelf Go.Proofs.Ytjlglfjikfpboaa.base Go.Proofs.Ytjlglfjikfpboaa.quotas Go.Proofs.Ytjlglfjikfpboaa.vers Go.Proofs.Ytjlglfjikfpboaa.nodes Go.Proofs.Ytjlglfjikfpboaa.trees Go.Proofs.Ytjlglfjikfpboaa.texts

/-- texts, in blocks of F -/
def TxF (w : World) (F : Nat → Prop) (v : Value) (ts : List (List UInt8)) : Prop := ∃ A c, v = .slice A ts.length c ∧ ts.length ≤ 140737488355328 ∧ ∀ j (h : j < ts.length), ∃ g, A = some ⟨g, 0, none⟩ ∧ F g ∧ w.cell? ⟨g, j, none⟩ = some (encStr ts[j])
theorem TxF.txt {w : World} {F : Nat → Prop} {v : Value} {ts : List (List UInt8)} (h : TxF w F v ts) : Txt w 0 v ts := by
  obtain ⟨A, c, e, hl, hc⟩ := h
  exact ⟨A, c, e, hl, fun j hj => by obtain ⟨g, h1, h2, h3⟩ := hc j hj; exact ⟨g, h1, Nat.zero_le _, World.block_lt_of_cell? w _ h3, h3⟩⟩
theorem TxF.of {w : World} {lo : Nat} {v : Value} {ts : List (List UInt8)} (h : Txt w lo v ts) : TxF w (fun g => lo ≤ g ∧ g < w.heap.size) v ts := by
  obtain ⟨A, c, e, hl, hc⟩ := h
  exact ⟨A, c, e, hl, fun j hj => by obtain ⟨g, h1, h2, h3, h4⟩ := hc j hj; exact ⟨g, h1, ⟨h2, h3⟩, h4⟩⟩
theorem TxF.agree {w w' : World} {F : Nat → Prop} {v : Value} {ts : List (List UInt8)} (h : TxF w F v ts) (hk : Agree w w' F) : TxF w' F v ts := by
  obtain ⟨A, c, e, hl, hc⟩ := h
  exact ⟨A, c, e, hl, fun j hj => by obtain ⟨g, h1, h2, h3⟩ := hc j hj; exact ⟨g, h1, h2, (hk.cell (p := ⟨g, j, none⟩) h2).trans h3⟩⟩
theorem TxF.mono {w : World} {F G : Nat → Prop} {v : Value} {ts : List (List UInt8)} (h : TxF w F v ts) (hG : ∀ g, F g → G g) : TxF w G v ts := by
  obtain ⟨A, c, e, hl, hc⟩ := h
  exact ⟨A, c, e, hl, fun j hj => by obtain ⟨g, h1, h2, h3⟩ := hc j hj; exact ⟨g, h1, hG g h2, h3⟩⟩
/-- the document's book, in blocks of F -/
structure RAt (w : World) (F : Nat → Prop) (es : List E) (A : Option Addr) (c : Nat) (v : Value) (L : List PB) (P : List (List UInt8)) : Prop where
  es_ : EsF w F es A c
  flt : ∀ g, F g → g < w.heap.size
  pe_ : es.map pe = L
  txt : TxF w F v P
section
variable {w w' : World} {F G : Nat → Prop} {es : List E} {A : Option Addr} {c : Nat} {v : Value} {L : List PB} {P : List (List UInt8)}
theorem RAt.now (h : RAt w F es A c v L P) (hb : Below w.heap.size w w') : RAt w' F es A c v L P :=
  ⟨h.es_.agree (Agree.of_below hb h.flt), fun g hg => Nat.lt_of_lt_of_le (h.flt g hg) hb.size, h.pe_, h.txt.agree (Agree.of_below hb h.flt)⟩
theorem RAt.mono (h : RAt w F es A c v L P) (hG : ∀ g, F g → G g) (hl : ∀ g, G g → g < w.heap.size) : RAt w G es A c v L P := ⟨h.es_.mono hG, hl, h.pe_, h.txt.mono hG⟩
end
theorem TxF.shape {w : World} {F : Nat → Prop} {v : Value} {ts : List (List UInt8)} (h : TxF w F v ts) : ∃ A n c, v = .slice A n c := by
  obtain ⟨A, c, e, _⟩ := h
  exact ⟨A, _, c, e⟩
abbrev NewB (F : Nat → Prop) (w w' : World) (g : Nat) : Prop := F g ∨ (w.heap.size ≤ g ∧ g < w'.heap.size)
theorem RAt.new {w w' : World} {F : Nat → Prop} {es : List E} {A : Option Addr} {c : Nat} {v : Value} {L : List PB} {P : List (List UInt8)} (h : RAt w F es A c v L P) (hb : Below w.heap.size w w') : RAt w' (NewB F w w') es A c v L P :=
  (h.now hb).mono (fun g hg => .inl hg) (fun g hg => hg.elim (fun h1 => Nat.lt_of_lt_of_le (h.flt g h1) hb.size) (fun h1 => h1.2))
/-- what Call leaves -/
def CPost (w : World) (q : Qt) (F : Nat → Prop) (L' : List PB) (P' : List (List UInt8)) (err : Int) (e : Ending) (w' : World) : Prop :=
  ∃ es' A' c' v', e = .returned (.tuple #[RV q (.slice A' es'.length c') v', .int .i64 err]) ∧ Below w.heap.size w w' ∧ RAt w' (NewB F w w') es' A' c' v' L' P'
theorem wereP_del {o : O} (h : o.k = 3) (P : List (List UInt8)) : wereP P [o] = P := by simp [wereP, h]
theorem wereP_put {o : O} (h : o.k ≠ 3) (P : List (List UInt8)) : wereP P [o] = insD (bn o.v) P false := by simp [wereP, h]

set_option maxRecDepth 100000 in
set_option maxHeartbeats 4000000 in
theorem call_form (q : Qt) (o : O) (es : List E) (A : Option Addr) (c : Nat) (v : Value) (L : List PB) (P : List (List UInt8)) (w : World) (F : Nat → Prop) (hR : RAt w F es A c v L P) (h1 : rightO q o ≠ 0) :
    Calls Try.prog 71 #[RV q (.slice A es.length c) v, .agg #[.int .i64 o.k, .string o.s, .string o.v, .string o.t]] w (CPost w q F L P (rightO q o)) := by
  have d1 := ne_yes h1
  clear h1
  obtain ⟨vA, vn, vc, rfl⟩ := hR.txt.shape
  have kb := ((Blk.new w 66 (RC q (.slice A es.length c) (.slice vA vn vc))).alloc (.cells (oc o) 92)).alloc (.cells Z9 66)
  have ko := (Blk.new (w.alloc (.cells (RC q (.slice A es.length c) (.slice vA vn vc)) 66)) 92 (oc o)).alloc (.cells Z9 66)
  have kz := Blk.new ((w.alloc (.cells (RC q (.slice A es.length c) (.slice vA vn vc)) 66)).alloc (.cells (oc o) 92)) 66 Z9
  simp only [World.size_alloc] at ko kz
  have b0 : Below w.heap.size w (((w.alloc (.cells (RC q (.slice A es.length c) (.slice vA vn vc)) 66)).alloc (.cells (oc o) 92)).alloc (.cells Z9 66)) := (((Below.refl _ _).alloc (Nat.le_refl _) _).alloc (by simp) _).alloc (by simp; omega) _
  go_enter Try.func71, Try.ntmps71
  go_upto_region 1 with (fail)
  generalize ((w.alloc (.cells (RC q (.slice A es.length c) (.slice vA vn vc)) 66)).alloc (.cells (oc o) 92)).alloc (.cells Z9 66) = W at *
  have hf := form_any q o W
  obtain ⟨⟨x0, x1, x2, x3, x4, x5, x6, x7, x8⟩, _⟩ := cells9 kb
  obtain ⟨o0, o1, o2, o3⟩ := ocells ko
  have lb := kb.lt
  have lo := ko.lt
  have lz := kz.lt
  go_wp2_with fail
  refine hf.mono ?_
  rintro e w1 ⟨rfl, hb1⟩
  have b1 := b0.trans (hb1.mono b0.size)
  clear x0 x1 x2 x3 x4 x5 x6 x7 x8 o0 o1 o2 o3
  have kb1 := kb.below hb1 kb.lt
  have ko1 := ko.below hb1 ko.lt
  have kz1 := kz.below hb1 kz.lt
  obtain ⟨⟨x0, x1, x2, x3, x4, x5, x6, x7, x8⟩, _⟩ := cells9 kb1
  obtain ⟨o0, o1, o2, o3⟩ := ocells ko1
  have lb1 := kb1.lt
  have lo1 := ko1.lt
  have lz1 := kz1.lt
  clear hf lb lo lz kb ko kz
  generalize rightO q o = er at *
  obtain ⟨_, n0, n1, n2, n3, n4, n5, n6, n7, n8⟩ := cells9 kz1
  have kN := nine_blk kz1 q (.slice A es.length c) (.slice vA vn vc)
  have bN := nine_below b1 (B := w.heap.size) (g := w.heap.size + 1 + 1) (by omega) q (.slice A es.length c) (.slice vA vn vc)
  have bM := fun (k : Nat) (hk : k ≠ w.heap.size + 1 + 1) => nine_heap w1 (w.heap.size + 1 + 1) q (.slice A es.length c) (.slice vA vn vc) k hk
  have zM := nine_size w1 (w.heap.size + 1 + 1) q (.slice A es.length c) (.slice vA vn vc)
  unfold nine at kN bN bM zM
  go_wp2_with fail
  generalize (((((((((World.setCell w1 ⟨w.heap.size + 1 + 1, 0, none⟩ (.int .i64 q.a)).setCell ⟨w.heap.size + 1 + 1, 1, none⟩ (.int .i64 q.b)).setCell ⟨w.heap.size + 1 + 1, 2, none⟩ (.int .i64 q.c)).setCell ⟨w.heap.size + 1 + 1, 3, none⟩ (.int .i64 q.d)).setCell ⟨w.heap.size + 1 + 1, 4, none⟩ (.int .i64 q.e)).setCell ⟨w.heap.size + 1 + 1, 5, none⟩ (.int .i64 q.f)).setCell ⟨w.heap.size + 1 + 1, 6, none⟩ (.int .i64 q.h)).setCell ⟨w.heap.size + 1 + 1, 7, none⟩ (.slice A es.length c)).setCell ⟨w.heap.size + 1 + 1, 8, none⟩ (.slice vA vn vc)) = W9 at kN bN bM zM ⊢
  obtain ⟨⟨v0, v1, v2, v3, v4, v5, v6, v7, v8⟩, _⟩ := cells9 kN
  refine bodyPost_ret (v := .tuple #[RV q (.slice A es.length c) (.slice vA vn vc), .int .i64 er]) (by simp [results, Try.results71, go_sem, v0, v1, v2, v3, v4, v5, v6, v7, v8]) rfl ⟨es, A, c, (.slice vA vn vc), rfl, bN, hR.new bN⟩

set_option maxRecDepth 100000 in
set_option maxHeartbeats 4000000 in
theorem call_none (q : Qt) (o : O) (es : List E) (A : Option Addr) (c : Nat) (v : Value) (L : List PB) (P : List (List UInt8)) (w : World) (F : Nat → Prop) (hR : RAt w F es A c v L P) (h1 : rightO q o = 0) (hk : o.k = 3) (hl : lk L o.s = none) :
    Calls Try.prog 71 #[RV q (.slice A es.length c) v, .agg #[.int .i64 o.k, .string o.s, .string o.v, .string o.t]] w (CPost w q F L P 3) := by
  obtain ⟨vA, vn, vc, rfl⟩ := hR.txt.shape
  obtain ⟨rn, rl, HG⟩ : ∃ rn rl, getP L o.s = (rn, rl, false) := ⟨_, _, by unfold getP; rw [hl]⟩
  have d3 := eq_yes hk
  clear hk hl
  have kb := ((Blk.new w 66 (RC q (.slice A es.length c) (.slice vA vn vc))).alloc (.cells (oc o) 92)).alloc (.cells Z9 66)
  have ko := (Blk.new (w.alloc (.cells (RC q (.slice A es.length c) (.slice vA vn vc)) 66)) 92 (oc o)).alloc (.cells Z9 66)
  have kz := Blk.new ((w.alloc (.cells (RC q (.slice A es.length c) (.slice vA vn vc)) 66)).alloc (.cells (oc o) 92)) 66 Z9
  simp only [World.size_alloc] at ko kz
  have b0 : Below w.heap.size w (((w.alloc (.cells (RC q (.slice A es.length c) (.slice vA vn vc)) 66)).alloc (.cells (oc o) 92)).alloc (.cells Z9 66)) := (((Below.refl _ _).alloc (Nat.le_refl _) _).alloc (by simp) _).alloc (by simp; omega) _
  go_enter Try.func71, Try.ntmps71
  go_upto_region 1 with (fail)
  generalize ((w.alloc (.cells (RC q (.slice A es.length c) (.slice vA vn vc)) 66)).alloc (.cells (oc o) 92)).alloc (.cells Z9 66) = W at *
  have hf := form_any q o W
  obtain ⟨⟨x0, x1, x2, x3, x4, x5, x6, x7, x8⟩, _⟩ := cells9 kb
  obtain ⟨o0, o1, o2, o3⟩ := ocells ko
  have lb := kb.lt
  have lo := ko.lt
  have lz := kz.lt
  go_wp2_with fail
  refine hf.mono ?_
  rintro e w1 ⟨rfl, hb1⟩
  rw [h1]
  have b1 := b0.trans (hb1.mono b0.size)
  clear x0 x1 x2 x3 x4 x5 x6 x7 x8 o0 o1 o2 o3
  have kb1 := kb.below hb1 kb.lt
  have ko1 := ko.below hb1 ko.lt
  have kz1 := kz.below hb1 kz.lt
  obtain ⟨⟨x0, x1, x2, x3, x4, x5, x6, x7, x8⟩, _⟩ := cells9 kb1
  obtain ⟨o0, o1, o2, o3⟩ := ocells ko1
  have lb1 := kb1.lt
  have lo1 := ko1.lt
  have lz1 := kz1.lt
  clear hf lb lo lz kb ko kz
  have hR1 := hR.now (b1.mono (Nat.le_refl _))
  have hg := refGet_any es A c o.s w1 hR1.es_.es
  rw [hR.pe_, HG] at hg
  clear h1
  go_wp2_with fail
  refine hg.mono ?_
  rintro e w2 ⟨hb2, A2, c2, rfl, hO2⟩
  simp only [] at hO2
  have b2 := b1.trans (hb2.mono b1.size)
  clear x0 x1 x2 x3 x4 x5 x6 x7 x8 o0 o1 o2 o3
  have kb2 := kb1.below hb2 kb1.lt
  have ko2 := ko1.below hb2 ko1.lt
  have kz2 := kz1.below hb2 kz1.lt
  have bY : Below w2.heap.size w2 (w2.alloc (.cells #[.string rn, .slice A2 rl.length c2] 79)) := (Below.refl _ _).alloc (Nat.le_refl _) _
  have kY3 := Blk.new w2 79 #[.string rn, .slice A2 rl.length c2]
  have b3 := b2.trans (bY.mono b2.size)
  have hO3 := hO2.agree (Agree.of_below bY fun g hg => hg.2)
  have hR3 := hR.now b3
  have kb3 := kb2.below bY kb2.lt
  have ko3 := ko2.below bY ko2.lt
  have kz3 := kz2.below bY kz2.lt
  generalize hWY : w2.alloc (.cells #[.string rn, .slice A2 rl.length c2] 79) = w3 at *
  have y0 := kY3.cell 0
  have y1 := kY3.cell 1
  simp only [List.getElem?_toArray, List.getElem?_cons_zero, List.getElem?_cons_succ] at y0 y1
  have f0 := kY3.frozen 0
  have f1 := kY3.frozen 1
  have lY3 := kY3.lt
  clear kb1 kb2 ko1 ko2 kz1 kz2 lb1 lo1 lz1 hg hO2
  obtain ⟨⟨x0, x1, x2, x3, x4, x5, x6, x7, x8⟩, _⟩ := cells9 kb3
  obtain ⟨o0, o1, o2, o3⟩ := ocells ko3
  have lb3 := kb3.lt
  have lo3 := ko3.lt
  have lz3 := kz3.lt
  obtain ⟨_, n0, n1, n2, n3, n4, n5, n6, n7, n8⟩ := cells9 kz3
  have kN := nine_blk kz3 q (.slice A es.length c) (.slice vA vn vc)
  have bN := nine_below b3 (B := w.heap.size) (g := w.heap.size + 1 + 1) (by omega) q (.slice A es.length c) (.slice vA vn vc)
  have bM := fun (k : Nat) (hk : k ≠ w.heap.size + 1 + 1) => nine_heap w3 (w.heap.size + 1 + 1) q (.slice A es.length c) (.slice vA vn vc) k hk
  have zM := nine_size w3 (w.heap.size + 1 + 1) q (.slice A es.length c) (.slice vA vn vc)
  unfold nine at kN bN bM zM
  go_wp2_with fail
  generalize (((((((((World.setCell w3 ⟨w.heap.size + 1 + 1, 0, none⟩ (.int .i64 q.a)).setCell ⟨w.heap.size + 1 + 1, 1, none⟩ (.int .i64 q.b)).setCell ⟨w.heap.size + 1 + 1, 2, none⟩ (.int .i64 q.c)).setCell ⟨w.heap.size + 1 + 1, 3, none⟩ (.int .i64 q.d)).setCell ⟨w.heap.size + 1 + 1, 4, none⟩ (.int .i64 q.e)).setCell ⟨w.heap.size + 1 + 1, 5, none⟩ (.int .i64 q.f)).setCell ⟨w.heap.size + 1 + 1, 6, none⟩ (.int .i64 q.h)).setCell ⟨w.heap.size + 1 + 1, 7, none⟩ (.slice A es.length c)).setCell ⟨w.heap.size + 1 + 1, 8, none⟩ (.slice vA vn vc)) = W9 at kN bN bM zM ⊢
  obtain ⟨⟨v0, v1, v2, v3, v4, v5, v6, v7, v8⟩, _⟩ := cells9 kN
  refine bodyPost_ret (v := .tuple #[RV q (.slice A es.length c) (.slice vA vn vc), .int .i64 3]) (by simp [results, Try.results71, go_sem, v0, v1, v2, v3, v4, v5, v6, v7, v8]) rfl ⟨es, A, c, (.slice vA vn vc), rfl, bN, hR.new bN⟩

set_option maxRecDepth 100000 in
set_option maxHeartbeats 4000000 in
theorem call_full (q : Qt) (o : O) (es : List E) (A : Option Addr) (c : Nat) (v : Value) (L : List PB) (P : List (List UInt8)) (w : World) (F : Nat → Prop) (hR : RAt w F es A c v L P) (h1 : rightO q o = 0) (hk : o.k ≠ 3) (hl : lk L o.s = none) (hf : q.a ≤ (L.length : Int)) :
    Calls Try.prog 71 #[RV q (.slice A es.length c) v, .agg #[.int .i64 o.k, .string o.s, .string o.v, .string o.t]] w (CPost w q F L P 6) := by
  obtain ⟨vA, vn, vc, rfl⟩ := hR.txt.shape
  obtain ⟨rn, rl, HG⟩ : ∃ rn rl, getP L o.s = (rn, rl, false) := ⟨_, _, by unfold getP; rw [hl]⟩
  have d3 := eq_no hk
  have hel : L.length = es.length := by rw [← hR.pe_, List.length_map]
  have d4 : decide (q.a ≤ (es.length : Int)) = true := decide_eq_true (by omega)
  clear hk hl hel hf
  have kb := ((Blk.new w 66 (RC q (.slice A es.length c) (.slice vA vn vc))).alloc (.cells (oc o) 92)).alloc (.cells Z9 66)
  have ko := (Blk.new (w.alloc (.cells (RC q (.slice A es.length c) (.slice vA vn vc)) 66)) 92 (oc o)).alloc (.cells Z9 66)
  have kz := Blk.new ((w.alloc (.cells (RC q (.slice A es.length c) (.slice vA vn vc)) 66)).alloc (.cells (oc o) 92)) 66 Z9
  simp only [World.size_alloc] at ko kz
  have b0 : Below w.heap.size w (((w.alloc (.cells (RC q (.slice A es.length c) (.slice vA vn vc)) 66)).alloc (.cells (oc o) 92)).alloc (.cells Z9 66)) := (((Below.refl _ _).alloc (Nat.le_refl _) _).alloc (by simp) _).alloc (by simp; omega) _
  go_enter Try.func71, Try.ntmps71
  go_upto_region 1 with (fail)
  generalize ((w.alloc (.cells (RC q (.slice A es.length c) (.slice vA vn vc)) 66)).alloc (.cells (oc o) 92)).alloc (.cells Z9 66) = W at *
  have hf := form_any q o W
  obtain ⟨⟨x0, x1, x2, x3, x4, x5, x6, x7, x8⟩, _⟩ := cells9 kb
  obtain ⟨o0, o1, o2, o3⟩ := ocells ko
  have lb := kb.lt
  have lo := ko.lt
  have lz := kz.lt
  go_wp2_with fail
  refine hf.mono ?_
  rintro e w1 ⟨rfl, hb1⟩
  rw [h1]
  have b1 := b0.trans (hb1.mono b0.size)
  clear x0 x1 x2 x3 x4 x5 x6 x7 x8 o0 o1 o2 o3
  have kb1 := kb.below hb1 kb.lt
  have ko1 := ko.below hb1 ko.lt
  have kz1 := kz.below hb1 kz.lt
  obtain ⟨⟨x0, x1, x2, x3, x4, x5, x6, x7, x8⟩, _⟩ := cells9 kb1
  obtain ⟨o0, o1, o2, o3⟩ := ocells ko1
  have lb1 := kb1.lt
  have lo1 := ko1.lt
  have lz1 := kz1.lt
  clear hf lb lo lz kb ko kz
  have hR1 := hR.now (b1.mono (Nat.le_refl _))
  have hg := refGet_any es A c o.s w1 hR1.es_.es
  rw [hR.pe_, HG] at hg
  clear h1
  go_wp2_with fail
  refine hg.mono ?_
  rintro e w2 ⟨hb2, A2, c2, rfl, hO2⟩
  simp only [] at hO2
  have b2 := b1.trans (hb2.mono b1.size)
  clear x0 x1 x2 x3 x4 x5 x6 x7 x8 o0 o1 o2 o3
  have kb2 := kb1.below hb2 kb1.lt
  have ko2 := ko1.below hb2 ko1.lt
  have kz2 := kz1.below hb2 kz1.lt
  have bY : Below w2.heap.size w2 (w2.alloc (.cells #[.string rn, .slice A2 rl.length c2] 79)) := (Below.refl _ _).alloc (Nat.le_refl _) _
  have kY3 := Blk.new w2 79 #[.string rn, .slice A2 rl.length c2]
  have b3 := b2.trans (bY.mono b2.size)
  have hO3 := hO2.agree (Agree.of_below bY fun g hg => hg.2)
  have hR3 := hR.now b3
  have kb3 := kb2.below bY kb2.lt
  have ko3 := ko2.below bY ko2.lt
  have kz3 := kz2.below bY kz2.lt
  generalize hWY : w2.alloc (.cells #[.string rn, .slice A2 rl.length c2] 79) = w3 at *
  have y0 := kY3.cell 0
  have y1 := kY3.cell 1
  simp only [List.getElem?_toArray, List.getElem?_cons_zero, List.getElem?_cons_succ] at y0 y1
  have f0 := kY3.frozen 0
  have f1 := kY3.frozen 1
  have lY3 := kY3.lt
  clear kb1 kb2 ko1 ko2 kz1 kz2 lb1 lo1 lz1 hg hO2
  obtain ⟨⟨x0, x1, x2, x3, x4, x5, x6, x7, x8⟩, _⟩ := cells9 kb3
  obtain ⟨o0, o1, o2, o3⟩ := ocells ko3
  have lb3 := kb3.lt
  have lo3 := ko3.lt
  have lz3 := kz3.lt
  obtain ⟨_, n0, n1, n2, n3, n4, n5, n6, n7, n8⟩ := cells9 kz3
  have kN := nine_blk kz3 q (.slice A es.length c) (.slice vA vn vc)
  have bN := nine_below b3 (B := w.heap.size) (g := w.heap.size + 1 + 1) (by omega) q (.slice A es.length c) (.slice vA vn vc)
  have bM := fun (k : Nat) (hk : k ≠ w.heap.size + 1 + 1) => nine_heap w3 (w.heap.size + 1 + 1) q (.slice A es.length c) (.slice vA vn vc) k hk
  have zM := nine_size w3 (w.heap.size + 1 + 1) q (.slice A es.length c) (.slice vA vn vc)
  unfold nine at kN bN bM zM
  go_wp2_with fail
  generalize (((((((((World.setCell w3 ⟨w.heap.size + 1 + 1, 0, none⟩ (.int .i64 q.a)).setCell ⟨w.heap.size + 1 + 1, 1, none⟩ (.int .i64 q.b)).setCell ⟨w.heap.size + 1 + 1, 2, none⟩ (.int .i64 q.c)).setCell ⟨w.heap.size + 1 + 1, 3, none⟩ (.int .i64 q.d)).setCell ⟨w.heap.size + 1 + 1, 4, none⟩ (.int .i64 q.e)).setCell ⟨w.heap.size + 1 + 1, 5, none⟩ (.int .i64 q.f)).setCell ⟨w.heap.size + 1 + 1, 6, none⟩ (.int .i64 q.h)).setCell ⟨w.heap.size + 1 + 1, 7, none⟩ (.slice A es.length c)).setCell ⟨w.heap.size + 1 + 1, 8, none⟩ (.slice vA vn vc)) = W9 at kN bN bM zM ⊢
  obtain ⟨⟨v0, v1, v2, v3, v4, v5, v6, v7, v8⟩, _⟩ := cells9 kN
  refine bodyPost_ret (v := .tuple #[RV q (.slice A es.length c) (.slice vA vn vc), .int .i64 6]) (by simp [results, Try.results71, go_sem, v0, v1, v2, v3, v4, v5, v6, v7, v8]) rfl ⟨es, A, c, (.slice vA vn vc), rfl, bN, hR.new bN⟩

end Go.Proofs.Ytjlglfjikfpboaa.books
