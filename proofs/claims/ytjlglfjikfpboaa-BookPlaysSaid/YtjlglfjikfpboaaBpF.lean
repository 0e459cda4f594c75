/- The document's Call as a whole; Play. -/
import Derived.Test.YtjlglfjikfpboaaBpE


namespace Go.Proofs.Ytjlglfjikfpboaa.books
set_option linter.unusedVariables false
set_option linter.unusedSimpArgs false
open Go.RowKit Go.Shelf Go.Proofs.Ytjlglfjikfpboaa.base Go.Proofs.Ytjlglfjikfpboaa.quotas Go.Proofs.Ytjlglfjikfpboaa.vers Go.Proofs.Ytjlglfjikfpboaa.nodes Go.Proofs.Ytjlglfjikfpboaa.trees Go.Proofs.Ytjlglfjikfpboaa.texts

theorem call_ok (q : Qt) (o : O) (es : List E) (A : Option Addr) (c : Nat) (v : Value) (L : List PB) (P : List (List UInt8)) (w : World) (F : Nat → Prop) (hR : RAt w F es A c v L P) (hf : o.fits) (hle : (L.length : Int) ≤ q.a) (hlen : L.length ≤ 1000) (hPl : P.length ≤ 4000000) :
    Calls Try.prog 71 #[RV q (.slice A es.length c) v, .agg #[.int .i64 o.k, .string o.s, .string o.v, .string o.t]] w (CPost w q F (oneP q L o).1 (if (oneP q L o).2 = 0 then wereP P [o] else P) (oneP q L o).2) := by
  have hel : L.length = es.length := by rw [← hR.pe_, List.length_map]
  have hes : es.length ≤ 1000 := by omega
  have hfit : o.v.size ≤ maxLen ∧ o.t.size ≤ maxLen := ⟨hf.2.2.1, hf.2.2.2⟩
  unfold oneP
  by_cases h1 : rightO q o = 0
  · rw [if_neg (fun h => h h1)]
    by_cases h3 : o.k = 3
    · rw [if_pos h3]
      cases hl : lk L o.s with
      | none => exact call_none q o es A c v L P w F hR h1 h3 hl
      | some lv =>
        simp only [if_true]
        rw [wereP_del h3]
        exact call_del q o es A c v L P w F hR h1 h3 hl hes
    · rw [if_neg h3]
      by_cases h6 : lk L o.s = none ∧ (L.length : Int) = q.a
      · rw [if_pos h6]
        exact call_full q o es A c v L P w F hR h1 h3 h6.1 (by omega)
      · rw [if_neg h6]
        unfold newP
        cases hi : (lk L o.s).isSome with
        | true =>
          by_cases h2 : o.k = 2
          · simp only [if_pos h2]
            by_cases hb : (addP q.a q.b q.c q.d q.e q.f q.h o.s ((lk L o.s).getD []) o.v o.t 1).bad = 0
            · rw [if_neg (fun h => h hb)]
              simp only [if_true]
              rw [wereP_put h3]
              exact call_put_g q o es A c v L P w F hR h1 h3 h2 hi hb hfit hf.2.1 hes hPl
            · rw [if_pos hb, if_neg (show ¬ (L, (addP q.a q.b q.c q.d q.e q.f q.h o.s ((lk L o.s).getD []) o.v o.t 1).bad).2 = 0 from hb)]
              exact call_put_e q o es A c v L P w F hR h1 h3 h2 hi hb hfit hf.2.1
          · simp only [if_neg h2]
            by_cases hb : (addP q.a q.b q.c q.d q.e q.f q.h o.s ((lk L o.s).getD []) o.v o.t q.e).bad = 0
            · rw [if_neg (fun h => h hb)]
              simp only [if_true]
              rw [wereP_put h3]
              exact call_put_c q o es A c v L P w F hR h1 h3 h2 hi hb hfit hf.2.1 hes hPl
            · rw [if_pos hb, if_neg (show ¬ (L, (addP q.a q.b q.c q.d q.e q.f q.h o.s ((lk L o.s).getD []) o.v o.t q.e).bad).2 = 0 from hb)]
              exact call_put_a q o es A c v L P w F hR h1 h3 h2 hi hb hfit hf.2.1
        | false =>
          have hn : lk L o.s = none := by
            cases hl : lk L o.s with
            | none => rfl
            | some l => rw [hl] at hi; cases hi
          have hlt : (L.length : Int) < q.a := by
            have : ¬ (L.length : Int) = q.a := fun e => h6 ⟨hn, e⟩
            omega
          by_cases h2 : o.k = 2
          · simp only [if_pos h2]
            by_cases hb : (addP q.a q.b q.c q.d q.e q.f q.h o.s ((lk L o.s).getD []) o.v o.t 1).bad = 0
            · rw [if_neg (fun h => h hb)]
              simp only [if_true]
              rw [wereP_put h3]
              exact call_put_h q o es A c v L P w F hR h1 h3 h2 hi hlt hb hfit hf.2.1 hes hPl
            · rw [if_pos hb, if_neg (show ¬ (L, (addP q.a q.b q.c q.d q.e q.f q.h o.s ((lk L o.s).getD []) o.v o.t 1).bad).2 = 0 from hb)]
              exact call_put_f q o es A c v L P w F hR h1 h3 h2 hi hlt hb hfit hf.2.1
          · simp only [if_neg h2]
            by_cases hb : (addP q.a q.b q.c q.d q.e q.f q.h o.s ((lk L o.s).getD []) o.v o.t q.e).bad = 0
            · rw [if_neg (fun h => h hb)]
              simp only [if_true]
              rw [wereP_put h3]
              exact call_put_d q o es A c v L P w F hR h1 h3 h2 hi hlt hb hfit hf.2.1 hes hPl
            · rw [if_pos hb, if_neg (show ¬ (L, (addP q.a q.b q.c q.d q.e q.f q.h o.s ((lk L o.s).getD []) o.v o.t q.e).bad).2 = 0 from hb)]
              exact call_put_b q o es A c v L P w F hR h1 h3 h2 hi hlt hb hfit hf.2.1
  · rw [if_pos h1, if_neg (show ¬ (L, rightO q o).2 = 0 from h1)]
    exact call_form q o es A c v L P w F hR h1

/-- the document's books, call by call -/
def rowL (q : Qt) (L : List PB) (ops : List O) : List PB := ops.foldl (fun L o => (oneP q L o).1) L
theorem row_next {q : Qt} {L : List PB} {ops : List O} {j : Nat} (hj : j < ops.length) : rowL q L (ops.take (j + 1)) = (oneP q (rowL q L (ops.take j)) ops[j]).1 := by
  unfold rowL
  rw [List.take_succ_eq_append_getElem hj, List.foldl_append]; rfl
theorem were_next {P : List (List UInt8)} {ops : List O} {j : Nat} (hj : j < ops.length) : wereP P (ops.take (j + 1)) = wereP (wereP P (ops.take j)) [ops[j]] := by
  rw [List.take_succ_eq_append_getElem hj, wereP_app]
theorem rowP_go {q : Qt} {L M : List PB} {ops : List O} {j : Nat} (hj : j < ops.length) (h : rowP q L ops 0 = rowP q M (ops.drop j) j) (h0 : (oneP q M ops[j]).2 = 0) : rowP q L ops 0 = rowP q (oneP q M ops[j]).1 (ops.drop (j + 1)) (j + 1) := by
  rw [h, List.drop_eq_getElem_cons hj, rowP, if_neg (fun hh => hh h0)]
theorem rowP_stop {q : Qt} {L M : List PB} {ops : List O} {j : Nat} (hj : j < ops.length) (h : rowP q L ops 0 = rowP q M (ops.drop j) j) (h0 : (oneP q M ops[j]).2 ≠ 0) : rowP q L ops 0 = (M, (oneP q M ops[j]).2, (j : Int)) := by
  rw [h, List.drop_eq_getElem_cons hj, rowP, if_pos h0]
theorem rowL_inv {q : Qt} (hk : q.ok) : ∀ (ops : List O) {L : List PB}, Inv q L → Inv q (rowL q L ops)
  | [], L, h => h
  | o :: r, L, h => rowL_inv hk r (h.one hk o)
/-- what Play leaves -/
def RpPost (w : World) (q : Qt) (F : Nat → Prop) (b : Bk) (err at' : Int) (e : Ending) (w' : World) : Prop :=
  ∃ es' A' c' v', e = .returned (.tuple #[RV q (.slice A' es'.length c') v', .int .i64 err, .int .i64 at']) ∧ Below w.heap.size w w' ∧ RAt w' (NewB F w w') es' A' c' v' b.L b.P
abbrev FJ (F : Nat → Prop) (k : Nat) (wr : World) (g : Nat) : Prop := F g ∨ (k ≤ g ∧ g < wr.heap.size)
/-- where the loop stands: the book so far in block g -/
structure RpAt (w : World) (q : Qt) (F : Nat → Prop) (es : List E) (A : Option Addr) (c : Nat) (v : Value) (L : List PB) (P : List (List UInt8)) (g : Nat) (wr : World) : Prop where
  bel : Below w.heap.size w wr
  kb : Blk wr w.heap.size 66 (RC q (.slice A es.length c) v)
  kz : Blk wr (w.heap.size + 1) 66 Z9
  gl : w.heap.size + 1 < g
  cur : ∃ es' A' c' v', Blk wr g 66 (RC q (.slice A' es'.length c') v') ∧ RAt wr (FJ F (g + 1) wr) es' A' c' v' L P
theorem RAt.mv {w w' : World} {F G : Nat → Prop} {es : List E} {A : Option Addr} {c : Nat} {v : Value} {L : List PB} {P : List (List UInt8)} (h : RAt w F es A c v L P) (hk : Agree w w' F) (hG : ∀ g, F g → G g) (hl : ∀ g, G g → g < w'.heap.size) : RAt w' G es A c v L P :=
  ⟨(h.es_.agree hk).mono hG, hl, h.pe_, (h.txt.agree hk).mono hG⟩

set_option maxRecDepth 100000 in
set_option maxHeartbeats 4000000 in
theorem refPlay_bad (q : Qt) (ops : List O) (AO : Option Addr) (cO : Nat) (es : List E) (A : Option Addr) (c : Nat) (v : Value) (L : List PB) (P : List (List UInt8)) (w : World) (F : Nat → Prop) (hR : RAt w F es A c v L P) (hO : Os w w.heap.size ops AO cO) (hbad : ops.length = 0 ∨ q.f < (ops.length : Int)) :
    Calls Try.prog 37 #[RV q (.slice A es.length c) v, .slice AO ops.length cO] w (RpPost w q F ⟨L, P⟩ 7 (-1)) := by
  obtain ⟨vA, vn, vc, rfl⟩ := hR.txt.shape
  have kb := (Blk.new w 66 (RC q (.slice A es.length c) (.slice vA vn vc))).alloc (.cells Z9 66)
  have kz := Blk.new (w.alloc (.cells (RC q (.slice A es.length c) (.slice vA vn vc)) 66)) 66 Z9
  simp only [World.size_alloc] at kz
  have b0 : Below w.heap.size w ((w.alloc (.cells (RC q (.slice A es.length c) (.slice vA vn vc)) 66)).alloc (.cells Z9 66)) := ((Below.refl _ _).alloc (Nat.le_refl _) _).alloc (by simp) _
  have z0 : ((w.alloc (.cells (RC q (.slice A es.length c) (.slice vA vn vc)) 66)).alloc (.cells Z9 66)).heap.size = w.heap.size + 1 + 1 := by simp
  have hol : ops.length ≤ 140737488355328 := by have := hO.2.1; omega
  go_enter Try.func37, Try.ntmps37
  go_upto_region 1 with (fail)
  generalize (w.alloc (.cells (RC q (.slice A es.length c) (.slice vA vn vc)) 66)).alloc (.cells Z9 66) = W at *
  obtain ⟨⟨x0, x1, x2, x3, x4, x5, x6, x7, x8⟩, _⟩ := cells9 kb
  have lb := kb.lt
  have lz := kz.lt
  obtain ⟨_, n0, n1, n2, n3, n4, n5, n6, n7, n8⟩ := cells9 kz
  have lzz := (kz).lt
  have kN := nine_blk (kz) q (.slice A es.length c) (.slice vA vn vc)
  have bN := nine_below b0 (B := w.heap.size) (g := w.heap.size + 1) (by omega) q (.slice A es.length c) (.slice vA vn vc)
  have bM := fun (k : Nat) (hk : k ≠ w.heap.size + 1) => nine_heap W (w.heap.size + 1) q (.slice A es.length c) (.slice vA vn vc) k hk
  have zM := nine_size W (w.heap.size + 1) q (.slice A es.length c) (.slice vA vn vc)
  unfold nine at kN bN bM zM
  have HZM := vers.lay zM
  clear zM
  by_cases h0 : ops.length < 1
  · have d1 : decide ((ops.length : Int) < 1) = true := decide_eq_true (by omega)
    have d1' : decide (ops.length < 1) = true := decide_eq_true h0
    have HH := vers.lay h0
    clear h0 hbad
    generalize ops.length = n at *
    go_wp2_with fail
    generalize (((((((((World.setCell W ⟨w.heap.size + 1, 0, none⟩ (.int .i64 q.a)).setCell ⟨w.heap.size + 1, 1, none⟩ (.int .i64 q.b)).setCell ⟨w.heap.size + 1, 2, none⟩ (.int .i64 q.c)).setCell ⟨w.heap.size + 1, 3, none⟩ (.int .i64 q.d)).setCell ⟨w.heap.size + 1, 4, none⟩ (.int .i64 q.e)).setCell ⟨w.heap.size + 1, 5, none⟩ (.int .i64 q.f)).setCell ⟨w.heap.size + 1, 6, none⟩ (.int .i64 q.h)).setCell ⟨w.heap.size + 1, 7, none⟩ (.slice A es.length c)).setCell ⟨w.heap.size + 1, 8, none⟩ (.slice vA vn vc)) = W9 at kN bN bM HZM ⊢
    obtain ⟨⟨v0, v1, v2, v3, v4, v5, v6, v7, v8⟩, _⟩ := cells9 kN
    refine bodyPost_ret (v := .tuple #[RV q (.slice A es.length c) (.slice vA vn vc), .int .i64 7, .int .i64 (-1)]) (by simp [results, Try.results37, go_sem, v0, v1, v2, v3, v4, v5, v6, v7, v8]) rfl ⟨es, A, c, (.slice vA vn vc), rfl, bN, hR.new bN⟩
  · have d1 : decide ((ops.length : Int) < 1) = false := decide_eq_false (by omega)
    have d2 : decide (q.f < (ops.length : Int)) = true := decide_eq_true (by omega)
    clear h0 hbad
    generalize ops.length = n at *
    go_wp2_with fail
    generalize (((((((((World.setCell W ⟨w.heap.size + 1, 0, none⟩ (.int .i64 q.a)).setCell ⟨w.heap.size + 1, 1, none⟩ (.int .i64 q.b)).setCell ⟨w.heap.size + 1, 2, none⟩ (.int .i64 q.c)).setCell ⟨w.heap.size + 1, 3, none⟩ (.int .i64 q.d)).setCell ⟨w.heap.size + 1, 4, none⟩ (.int .i64 q.e)).setCell ⟨w.heap.size + 1, 5, none⟩ (.int .i64 q.f)).setCell ⟨w.heap.size + 1, 6, none⟩ (.int .i64 q.h)).setCell ⟨w.heap.size + 1, 7, none⟩ (.slice A es.length c)).setCell ⟨w.heap.size + 1, 8, none⟩ (.slice vA vn vc)) = W9 at kN bN bM HZM ⊢
    obtain ⟨⟨v0, v1, v2, v3, v4, v5, v6, v7, v8⟩, _⟩ := cells9 kN
    refine bodyPost_ret (v := .tuple #[RV q (.slice A es.length c) (.slice vA vn vc), .int .i64 7, .int .i64 (-1)]) (by simp [results, Try.results37, go_sem, v0, v1, v2, v3, v4, v5, v6, v7, v8]) rfl ⟨es, A, c, (.slice vA vn vc), rfl, bN, hR.new bN⟩

set_option maxRecDepth 100000 in
set_option maxHeartbeats 4000000 in
theorem refPlay_ok (q : Qt) (ops : List O) (AO : Option Addr) (cO : Nat) (es : List E) (A : Option Addr) (c : Nat) (v : Value) (L : List PB) (P : List (List UInt8)) (w : World) (F : Nat → Prop) (hR : RAt w F es A c v L P) (hO : Os w w.heap.size ops AO cO) (hk : q.ok) (hI : Inv q L) (hn : ¬ (ops.length = 0 ∨ q.f < (ops.length : Int))) (hPl : P.length + ops.length ≤ 4000000) :
    Calls Try.prog 37 #[RV q (.slice A es.length c) v, .slice AO ops.length cO] w (RpPost w q F (playP q ⟨L, P⟩ ops).1 (playP q ⟨L, P⟩ ops).2.1 (playP q ⟨L, P⟩ ops).2.2) := by
  obtain ⟨vA, vn, vc, rfl⟩ := hR.txt.shape
  have hbeh : behindP q L ops = rowP q L ops 0 := behindP_row hn
  have HG := vers.lay (fun (M : List PB) (h : rowP q L ops 0 = (M, 0, 0)) => (show playP q ⟨L, P⟩ ops = (⟨M, wereP P ops⟩, 0, 0) by unfold playP; simp only []; rw [hbeh, h]; simp))
  have HS := vers.lay (fun (M : List PB) (er : Int) (j : Int) (h0 : er ≠ 0) (h : rowP q L ops 0 = (M, er, j)) => (show playP q ⟨L, P⟩ ops = (⟨L, P⟩, er, j) by unfold playP; simp only []; rw [hbeh, h]; simp [h0]))
  have HIN := vers.lay (fun j => rowL_inv hk (ops.take j) hI)
  have HPJ := vers.lay (fun j => wereP_len (ops.take j) P)
  have HNN := vers.lay hn
  have d1 : decide ((ops.length : Int) < 1) = false := decide_eq_false (by omega)
  have d2 : decide (q.f < (ops.length : Int)) = false := decide_eq_false (by omega)
  clear hbeh hn hI
  have kb := (Blk.new w 66 (RC q (.slice A es.length c) (.slice vA vn vc))).alloc (.cells Z9 66)
  have kz := Blk.new (w.alloc (.cells (RC q (.slice A es.length c) (.slice vA vn vc)) 66)) 66 Z9
  simp only [World.size_alloc] at kz
  have b0 : Below w.heap.size w ((w.alloc (.cells (RC q (.slice A es.length c) (.slice vA vn vc)) 66)).alloc (.cells Z9 66)) := ((Below.refl _ _).alloc (Nat.le_refl _) _).alloc (by simp) _
  have z0 : ((w.alloc (.cells (RC q (.slice A es.length c) (.slice vA vn vc)) 66)).alloc (.cells Z9 66)).heap.size = w.heap.size + 1 + 1 := by simp
  have hol : ops.length ≤ 140737488355328 := by have := hO.2.1; omega
  go_enter Try.func37, Try.ntmps37
  go_upto_region 1 with (fail)
  generalize (w.alloc (.cells (RC q (.slice A es.length c) (.slice vA vn vc)) 66)).alloc (.cells Z9 66) = W at *
  obtain ⟨⟨x0, x1, x2, x3, x4, x5, x6, x7, x8⟩, _⟩ := cells9 kb
  have lb := kb.lt
  have lz := kz.lt
  have kC := Blk.new W 66 (RC q (.slice A es.length c) (.slice vA vn vc))
  have bC : Below W.heap.size W (W.alloc (.cells (RC q (.slice A es.length c) (.slice vA vn vc)) 66)) := (Below.refl _ _).alloc (Nat.le_refl _) _
  have bW := b0.trans (bC.mono b0.size)
  have H0 : RpAt w q F es A c (.slice vA vn vc) L P W.heap.size (W.alloc (.cells (RC q (.slice A es.length c) (.slice vA vn vc)) 66)) := ⟨bW, kb.below bC kb.lt, kz.below bC kz.lt, by omega, es, A, c, (.slice vA vn vc), kC, hR.mv (Agree.of_below bW hR.flt) (fun g hg => .inl hg) (fun g hg => hg.elim (fun h => Nat.lt_of_lt_of_le (hR.flt g h) bW.size) (fun h => h.2))⟩
  have H0 := vers.lay H0
  clear kC bC z0 bW
  go_upto_region 4 with (fail)
  generalize playP q ⟨L, P⟩ ops = pp at *
  generalize W.alloc (.cells (RC q (.slice A es.length c) (.slice vA vn vc)) 66) = W1 at *
  generalize W.heap.size = g7 at *
  clear x0 x1 x2 x3 x4 x5 x6 x7 x8 lb lz kb kz b0
  go_wp2_with fail
  go_loopw [27] (fun i wr => ∃ j : Nat, j ≤ ops.length ∧ i = .int .i64 (j : Int) ∧ RpAt w q F es A c (.slice vA vn vc) (rowL q L (ops.take j)) (wereP P (ops.take j)) g7 wr ∧ Hid (rowP q L ops 0 = rowP q (rowL q L (ops.take j)) (ops.drop j) j)) (fun i _ => ops.length - (intOf i).toNat)
  case atStart => exact ⟨0, Nat.zero_le _, rfl, H0.out, vers.lay rfl⟩
  case round =>
    clear H0
    obtain ⟨j, hj, rfl, ⟨bel, kb1, kz1, gl, es1, A1, c1, v1, kc1, hR1⟩, hrow⟩ := hrel
    have hsw := bel.size
    have hwk := kz1.lt
    have hgk := kc1.lt
    obtain ⟨w1A, w1n, w1c, rfl⟩ := hR1.txt.shape
    by_cases hlt : j < ops.length
    · obtain ⟨bk, off, rfl, hbk, p0, p1, p2, p3⟩ := (hO.below bel).at_ hlt
      have hyf := hO.2.2.2.2 _ (List.getElem_mem hlt)
      have hgo := vers.lay (fun h => rowP_go hlt hrow.out h)
      have hst := vers.lay (fun h => rowP_stop hlt hrow.out h)
      have hnx := vers.lay (row_next (q := q) (L := L) hlt)
      have hwx := vers.lay (were_next (P := P) hlt)
      have hIj := HIN.out j
      have hPj := HPJ.out j
      rw [List.length_take] at hPj
      clear hrow
      generalize rowL q L (ops.take j) = Lj at *
      generalize wereP P (ops.take j) = Pj at *
      generalize ops[j] = y at *
      obtain ⟨yk, ys, yv, yt⟩ := y
      simp only [] at p0 p1 p2 p3
      have bZ : Below wr.heap.size wr (wr.alloc (.cells (oc ⟨yk, ys, yv, yt⟩) 92)) := (Below.refl _ _).alloc (Nat.le_refl _) _
      have kZ := Blk.new wr 92 (oc ⟨yk, ys, yv, yt⟩)
      have hRZ := hR1.now bZ
      have kbZ := kb1.below bZ kb1.lt
      have kzZ := kz1.below bZ kz1.lt
      have kcZ := kc1.below bZ kc1.lt
      have belZ := bel.trans (bZ.mono bel.size)
      have hsZ := bZ.size
      have hlj := hIj.len
      have hle := hIj.le hk
      have hc := call_ok q ⟨yk, ys, yv, yt⟩ es1 A1 c1 _ Lj Pj _ _ hRZ hyf hlj (by omega) (by omega)
      simp only [] at hc
      generalize hWZ : wr.alloc (.cells (oc ⟨yk, ys, yv, yt⟩) 92) = WZ at *
      obtain ⟨⟨x0, x1, x2, x3, x4, x5, x6, x7, x8⟩, _⟩ := cells9 kcZ
      obtain ⟨o0, o1, o2, o3⟩ := ocells kZ
      have lcZ := kcZ.lt
      have lZ := kZ.lt
      generalize oneP q Lj ⟨yk, ys, yv, yt⟩ = r at *
      obtain ⟨L2, er⟩ := r
      simp only [] at hc hgo hst hnx
      clear kb1 kz1 kc1 hR1 hRZ
      go_wp2_with fail
      refine hc.mono ?_
      rintro e w5 ⟨es2, A2, c2, v2, rfl, hb5, hR5⟩
      obtain ⟨v2A, v2n, v2c, rfl⟩ := hR5.txt.shape
      have kb5 := kbZ.below hb5 kbZ.lt
      have kz5 := kzZ.below hb5 kzZ.lt
      have kc5 := kcZ.below hb5 kcZ.lt
      have bel5 := belZ.trans (hb5.mono belZ.size)
      have hs5 := hb5.size
      have bY : Below w5.heap.size w5 (w5.alloc (.cells (RC q (.slice A2 es2.length c2) (.slice v2A v2n v2c)) 66)) := (Below.refl _ _).alloc (Nat.le_refl _) _
      have kY := Blk.new w5 66 (RC q (.slice A2 es2.length c2) (.slice v2A v2n v2c))
      have hR6 := hR5.now bY
      have kb6 := kb5.below bY kb5.lt
      have kz6 := kz5.below bY kz5.lt
      have kc6 := kc5.below bY kc5.lt
      have bel6 := bel5.trans (bY.mono bel5.size)
      have hs6 := bY.size
      generalize hWY : w5.alloc (.cells (RC q (.slice A2 es2.length c2) (.slice v2A v2n v2c)) 66) = w6 at *
      clear x0 x1 x2 x3 x4 x5 x6 x7 x8 o0 o1 o2 o3 hc hR5 kbZ kzZ kcZ kb5 kz5 kc5 lcZ
      have lY := kY.lt
      have lb6 := kb6.lt
      by_cases he : er = 0
      · have d5 := ne_no he
        have HE := vers.lay he
        clear he
        obtain ⟨⟨x0, x1, x2, x3, x4, x5, x6, x7, x8⟩, _⟩ := cells9 kY
        obtain ⟨_, n0, n1, n2, n3, n4, n5, n6, n7, n8⟩ := cells9 kc6
        have lzz := (kc6).lt
        have kN := nine_blk (kc6) q (.slice A2 es2.length c2) (.slice v2A v2n v2c)
        have bN := nine_below bel6 (B := w.heap.size) (g := g7) (by omega) q (.slice A2 es2.length c2) (.slice v2A v2n v2c)
        have bM := fun (k : Nat) (hk : k ≠ g7) => nine_heap w6 (g7) q (.slice A2 es2.length c2) (.slice v2A v2n v2c) k hk
        have zM := nine_size w6 (g7) q (.slice A2 es2.length c2) (.slice v2A v2n v2c)
        unfold nine at kN bN bM zM
        have HZM := vers.lay zM
        clear zM
        go_wp2_with fail
        generalize (((((((((World.setCell w6 ⟨g7, 0, none⟩ (.int .i64 q.a)).setCell ⟨g7, 1, none⟩ (.int .i64 q.b)).setCell ⟨g7, 2, none⟩ (.int .i64 q.c)).setCell ⟨g7, 3, none⟩ (.int .i64 q.d)).setCell ⟨g7, 4, none⟩ (.int .i64 q.e)).setCell ⟨g7, 5, none⟩ (.int .i64 q.f)).setCell ⟨g7, 6, none⟩ (.int .i64 q.h)).setCell ⟨g7, 7, none⟩ (.slice A2 es2.length c2)).setCell ⟨g7, 8, none⟩ (.slice v2A v2n v2c)) = W9 at kN bN bM HZM ⊢
        have zM := HZM.out
        refine ⟨⟨j + 1, hlt, by go_num, ⟨bN, (bM _ (by omega)).trans kb6, (bM _ (by omega)).trans kz6, gl, es2, A2, c2, _, kN, ?_⟩, vers.lay (by rw [hnx.out]; exact hgo.out HE.out)⟩, by simp [intOf]; omega⟩
        rw [hnx.out, hwx.out]
        rw [HE.out, if_pos rfl] at hR6
        refine hR6.mv (fun g hg => bM g ?_) (fun g hg => ?_) (fun g hg => ?_)
        · rcases hg with (h | h) | h
          · have := hR.flt g h; omega
          · omega
          · omega
        · rcases hg with (h | h) | h
          · exact .inl h
          · exact .inr ⟨h.1, by omega⟩
          · exact .inr ⟨by omega, by omega⟩
        · rcases hg with h | h
          · have := hR.flt g h; omega
          · exact h.2
      · have d5 := ne_yes he
        have HPP := vers.lay (HS.out _ _ _ he (hst.out he))
        clear he
        obtain ⟨⟨x0, x1, x2, x3, x4, x5, x6, x7, x8⟩, _⟩ := cells9 kb6
        obtain ⟨_, n0, n1, n2, n3, n4, n5, n6, n7, n8⟩ := cells9 kz6
        have lzz := (kz6).lt
        have kN := nine_blk (kz6) q (.slice A es.length c) (.slice vA vn vc)
        have bN := nine_below bel6 (B := w.heap.size) (g := w.heap.size + 1) (by omega) q (.slice A es.length c) (.slice vA vn vc)
        have bM := fun (k : Nat) (hk : k ≠ w.heap.size + 1) => nine_heap w6 (w.heap.size + 1) q (.slice A es.length c) (.slice vA vn vc) k hk
        have zM := nine_size w6 (w.heap.size + 1) q (.slice A es.length c) (.slice vA vn vc)
        unfold nine at kN bN bM zM
        have HZM := vers.lay zM
        clear zM
        go_wp2_with fail
        generalize (((((((((World.setCell w6 ⟨w.heap.size + 1, 0, none⟩ (.int .i64 q.a)).setCell ⟨w.heap.size + 1, 1, none⟩ (.int .i64 q.b)).setCell ⟨w.heap.size + 1, 2, none⟩ (.int .i64 q.c)).setCell ⟨w.heap.size + 1, 3, none⟩ (.int .i64 q.d)).setCell ⟨w.heap.size + 1, 4, none⟩ (.int .i64 q.e)).setCell ⟨w.heap.size + 1, 5, none⟩ (.int .i64 q.f)).setCell ⟨w.heap.size + 1, 6, none⟩ (.int .i64 q.h)).setCell ⟨w.heap.size + 1, 7, none⟩ (.slice A es.length c)).setCell ⟨w.heap.size + 1, 8, none⟩ (.slice vA vn vc)) = W9 at kN bN bM HZM ⊢
        obtain ⟨⟨v0, v1, v2, v3, v4, v5, v6, v7, v8⟩, _⟩ := cells9 kN
        refine bodyPost_ret (v := .tuple #[RV q (.slice A es.length c) (.slice vA vn vc), .int .i64 er, .int .i64 (j : Int)]) (by simp [results, Try.results37, go_sem, v0, v1, v2, v3, v4, v5, v6, v7, v8]) rfl ⟨es, A, c, (.slice vA vn vc), by rw [HPP.out], bN, by rw [HPP.out]; exact hR.new bN⟩
    · obtain rfl : j = ops.length := by omega
      have HPP := vers.lay (HG.out (rowL q L ops) (by have := hrow.out; rw [List.drop_length, List.take_length] at this; exact this))
      rw [List.take_length] at hR1
      obtain ⟨⟨x0, x1, x2, x3, x4, x5, x6, x7, x8⟩, _⟩ := cells9 kc1
      have lc1 := kc1.lt
      obtain ⟨_, n0, n1, n2, n3, n4, n5, n6, n7, n8⟩ := cells9 kz1
      have lzz := (kz1).lt
      have kN := nine_blk (kz1) q (.slice A1 es1.length c1) (.slice w1A w1n w1c)
      have bN := nine_below bel (B := w.heap.size) (g := w.heap.size + 1) (by omega) q (.slice A1 es1.length c1) (.slice w1A w1n w1c)
      have bM := fun (k : Nat) (hk : k ≠ w.heap.size + 1) => nine_heap wr (w.heap.size + 1) q (.slice A1 es1.length c1) (.slice w1A w1n w1c) k hk
      have zM := nine_size wr (w.heap.size + 1) q (.slice A1 es1.length c1) (.slice w1A w1n w1c)
      unfold nine at kN bN bM zM
      have HZM := vers.lay zM
      clear zM
      go_wp2_with fail
      generalize (((((((((World.setCell wr ⟨w.heap.size + 1, 0, none⟩ (.int .i64 q.a)).setCell ⟨w.heap.size + 1, 1, none⟩ (.int .i64 q.b)).setCell ⟨w.heap.size + 1, 2, none⟩ (.int .i64 q.c)).setCell ⟨w.heap.size + 1, 3, none⟩ (.int .i64 q.d)).setCell ⟨w.heap.size + 1, 4, none⟩ (.int .i64 q.e)).setCell ⟨w.heap.size + 1, 5, none⟩ (.int .i64 q.f)).setCell ⟨w.heap.size + 1, 6, none⟩ (.int .i64 q.h)).setCell ⟨w.heap.size + 1, 7, none⟩ (.slice A1 es1.length c1)).setCell ⟨w.heap.size + 1, 8, none⟩ (.slice w1A w1n w1c)) = W9 at kN bN bM HZM ⊢
      obtain ⟨⟨v0, v1, v2, v3, v4, v5, v6, v7, v8⟩, _⟩ := cells9 kN
      have zM := HZM.out
      refine bodyPost_ret (v := .tuple #[RV q (.slice A1 es1.length c1) (.slice w1A w1n w1c), .int .i64 0, .int .i64 0]) (by simp [results, Try.results37, go_sem, v0, v1, v2, v3, v4, v5, v6, v7, v8]) rfl ⟨es1, A1, c1, _, by rw [HPP.out], bN, by
        rw [HPP.out]
        refine hR1.mv (fun g hg => bM g ?_) (fun g hg => ?_) (fun g hg => ?_)
        · rcases hg with h | h
          · have := hR.flt g h; omega
          · omega
        · rcases hg with h | h
          · exact .inl h
          · exact .inr ⟨by omega, by omega⟩
        · rcases hg with h | h
          · have := hR.flt g h; omega
          · exact h.2⟩

theorem refPlay_any (q : Qt) (ops : List O) (AO : Option Addr) (cO : Nat) (es : List E) (A : Option Addr) (c : Nat) (v : Value) (L : List PB) (P : List (List UInt8)) (w : World) (F : Nat → Prop) (hR : RAt w F es A c v L P) (hO : Os w w.heap.size ops AO cO) (hk : q.ok) (hI : Inv q L) (hPl : P.length ≤ 1000000) :
    Calls Try.prog 37 #[RV q (.slice A es.length c) v, .slice AO ops.length cO] w (RpPost w q F (playP q ⟨L, P⟩ ops).1 (playP q ⟨L, P⟩ ops).2.1 (playP q ⟨L, P⟩ ops).2.2) := by
  by_cases hn : ops.length = 0 ∨ q.f < (ops.length : Int)
  · have h : playP q ⟨L, P⟩ ops = (⟨L, P⟩, 7, -1) := by unfold playP; simp only []; rw [behindP_batch hn]; rfl
    rw [h]
    exact refPlay_bad q ops AO cO es A c v L P w F hR hO hn
  · exact refPlay_ok q ops AO cO es A c v L P w F hR hO hk hI hn (by have := hk.2.2.2.2.2.1.2; omega)

end Go.Proofs.Ytjlglfjikfpboaa.books
