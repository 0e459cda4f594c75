/- The walk of BookPlays. -/
import Derived.Test.YtjlglfjikfpboaaBpI
import Derived.Test.YtjlglfjikfpboaaBpF
import Derived.Test.YtjlglfjikfpboaaMixCE


namespace Go.Proofs.Ytjlglfjikfpboaa.books
set_option linter.unusedVariables false
set_option linter.unusedSimpArgs false
open Go.RowKit Go.Shelf Go.Proofs.Ytjlglfjikfpboaa.base Go.Proofs.Ytjlglfjikfpboaa.quotas Go.Proofs.Ytjlglfjikfpboaa.vers Go.Proofs.Ytjlglfjikfpboaa.nodes Go.Proofs.Ytjlglfjikfpboaa.trees Go.Proofs.Ytjlglfjikfpboaa.texts

/-- the book, beside the document's in block g -/
structure BkS (W : World) (q : Qt) (g : Nat) (b : Bk) (bp mp : Nat) (Z : Nat → Prop) (wr : World) : Prop where
  bel : Below W.heap.size W wr
  bp_ : W.heap.size ≤ bp
  mp_ : W.heap.size ≤ mp
  at_ : BAt wr q bp mp Z b
  zlo : ∀ k, Z k → W.heap.size ≤ k
  zg : ¬ Z g
  gb : g ≠ bp
  gm : g ≠ mp
  gw : W.heap.size ≤ g
structure RfS (q : Qt) (g : Nat) (L : List PB) (P : List (List UInt8)) (bp mp : Nat) (F : Nat → Prop) (es : List E) (A : Option Addr) (c : Nat) (v : Value) (wr : World) : Prop where
  blk : Blk wr g 66 (RC q (.slice A es.length c) v)
  rat : RAt wr F es A c v L P
  off : ∀ k, F k → k ≠ bp ∧ k ≠ mp ∧ k ≠ g
section
variable {W : World} {q : Qt} {g : Nat} {b : Bk} {bp mp : Nat} {Z F : Nat → Prop} {wr w' : World} {L : List PB} {P : List (List UInt8)} {es : List E} {A : Option Addr} {c : Nat} {v : Value} {n : Nat}
theorem BkS.md (h : BkS W q g b bp mp Z wr) : MdHead W q bp mp b wr := ⟨h.bel, Z, h.bp_, h.mp_, h.at_, h.zlo⟩
theorem BkS.below (h : BkS W q g b bp mp Z wr) (hb : Below wr.heap.size wr w') : BkS W q g b bp mp Z w' := ⟨h.bel.trans (hb.mono h.bel.size), h.bp_, h.mp_, h.at_.below hb, h.zlo, h.zg, h.gb, h.gm, h.gw⟩
theorem RfS.below (h : RfS q g L P bp mp F es A c v wr) (hb : Below wr.heap.size wr w') : RfS q g L P bp mp F es A c v w' := ⟨h.blk.below hb h.blk.lt, h.rat.now hb, h.off⟩
theorem RfS.keep (h : RfS q g L P bp mp F es A c v wr) (hgb : g ≠ bp) (hgm : g ≠ mp) (hK : Keep (fun k => k = bp ∨ k = mp) wr w') : RfS q g L P bp mp F es A c v w' :=
  ⟨hK.blk h.blk (fun hs => hs.elim hgb hgm), h.rat.mv (fun k hk => hK.block k (h.rat.flt k hk) (fun hs => hs.elim (h.off k hk).1 (h.off k hk).2.1)) (fun k hk => hk) (fun k hk => Nat.lt_of_lt_of_le (h.rat.flt k hk) hK.size), h.off⟩
theorem BkS.play (h : BkS W q g b bp mp Z wr) (hg : g < wr.heap.size) (hk : q.ok) (hI : BInv q n b) (hn : n ≤ 1000) {ops : List O} {AO : Option Addr} {cO : Nat} (hO : Os wr wr.heap.size ops AO cO) (hA : ops ≠ [] → ∀ g off, AO = some ⟨g, off, none⟩ → g < W.heap.size) :
    Calls Try.prog 45 #[.pointer (some ⟨bp, 0, none⟩), .slice AO ops.length cO] wr fun e w' => e = .returned (.tuple #[.int .i64 (playP q b ops).2.1, .int .i64 (playP q b ops).2.2]) ∧ Keep (fun k => k = bp ∨ k = mp) wr w' ∧ ∃ Z', BkS W q g (playP q b ops).1 bp mp Z' w' := by
  have hL := hI.inv.le hk
  have hP := hI.plen
  obtain ⟨h1, h2, h3, h4, h5, h6, h7, h8, h9⟩ := h
  refine (play_any q bp mp Z b ops AO cO wr h4 hO (fun hn g off e => by have := hA hn g off e; omega) (by have := hk.2.2.2.2.2.1.2; omega) (by have := hk.2.2.2.2.2.1.2; omega)).mono ?_
  rintro e w' ⟨he, hK, Z', hB, hZ⟩
  exact ⟨he, hK, Z', h1.trans (hK.below (fun g hg => by rcases hg with rfl | rfl <;> assumption) h1.size), h2, h3, hB, fun g hg => (hZ g hg).elim (h5 g) (fun h => Nat.le_trans h1.size h), fun hz => (hZ g hz).elim h6 (fun h => by omega), h7, h8, h9⟩
theorem BkS.set (h : BkS W q g b bp mp Z wr) (hK : Keep (fun k => k = g) wr w') : BkS W q g b bp mp Z w' :=
  ⟨h.bel.trans (hK.below (fun k hk => by rw [hk]; exact h.gw) h.bel.size), h.bp_, h.mp_, h.at_.keep hK (fun e => h.gb e.symm) (fun e => h.gm e.symm) (fun k hk e => h.zg (e ▸ hk)), h.zlo, h.zg, h.gb, h.gm, h.gw⟩
end
theorem playP_two (q : Qt) (b : Bk) (ops : List O) : (playP q b ops).2.1 = (behindP q b.L ops).2.1 ∧ (playP q b ops).2.2 = (behindP q b.L ops).2.2 := by
  have := playP_res q b ops
  exact ⟨congrArg (·.1) this, congrArg (·.2) this⟩

theorem BkS.copied {W : World} {q : Qt} {g : Nat} {b : Bk} {bp mp cp : Nat} {Z : Nat → Prop} {wr w1 w2 : World} (h : BkS W q g b bp mp Z wr) (hg : g < wr.heap.size) (hN : NewPost wr q Z b cp w1) (hK : Keep (fun k => k = bp ∨ k = mp) w1 w2) : ∃ mp' Z', wr.heap.size ≤ cp ∧ wr.heap.size ≤ mp' ∧ BkS W q g b cp mp' Z' w2 := by
  obtain ⟨hb, mp', Z', h1, h2, h3, h4⟩ := hN
  have hlt := h.at_.lt
  have hz : ∀ k, Z k → k ≠ bp ∧ k ≠ mp := by
    obtain ⟨ms, Y, e1, e2, e3, e4, e5, e6, e7, e8⟩ := h.at_
    exact fun k hk => ⟨(e7 k hk).1, (e7 k hk).2.1⟩
  have hbel := h.bel.trans (hb.mono h.bel.size)
  refine ⟨mp', Z', h1, h2, hbel.trans (hK.below (fun k hk => by rcases hk with rfl | rfl; exact h.bp_; exact h.mp_) hbel.size), Nat.le_trans h.bel.size h1, Nat.le_trans h.bel.size h2, h3.keep hK (fun e => by omega) (fun e => by omega) (fun k hk e => ?_), fun k hk => (h4 k hk).elim (h.zlo k) (fun h5 => Nat.le_trans h.bel.size h5), fun e => (h4 g e).elim h.zg (fun h5 => by omega), by omega, by omega, h.gw⟩
  rcases h4 k hk with h5 | h5
  · have := hz k h5; omega
  · omega

set_option maxRecDepth 100000 in
set_option maxHeartbeats 4000000 in
theorem plays_no (q : Qt) (sl : List SP) (A : Option Addr) (c : Nat) (w : World) (hk : ¬ q.ok) :
    Calls Try.prog 9 #[.agg #[.int .i64 q.a, .int .i64 q.b, .int .i64 q.c, .int .i64 q.d, .int .i64 q.e, .int .i64 q.f, .int .i64 q.h], .slice A sl.length c] w fun e w' => e = .returned (.bool true) ∧ Below w.heap.size w w' := by
  have hm := fun w' => new_no q w' hk
  have hr := fun w' => refNew_no q w' hk
  obtain ⟨kq, b0, z0⟩ := boxesQ q w
  go_enter Try.func9, Try.ntmps9
  go_wp2_with fail
  generalize (w.alloc (.cells #[.int .i64 q.a, .int .i64 q.b, .int .i64 q.c, .int .i64 q.d, .int .i64 q.e, .int .i64 q.f, .int .i64 q.h] 59)) = W at *
  obtain ⟨c0, c1, c2, c3, c4, c5, c6⟩ := qcells kq
  have lq := kq.lt
  go_wp2_with fail
  refine (hm _).mono ?_
  rintro e1 w1 ⟨rfl, hb1⟩
  have b1 := b0.trans (hb1.mono b0.size)
  have kq1 := kq.below hb1 kq.lt
  clear c0 c1 c2 c3 c4 c5 c6
  obtain ⟨c0, c1, c2, c3, c4, c5, c6⟩ := qcells kq1
  have lq1 := kq1.lt
  go_wp2_with fail
  refine (hr _).mono ?_
  rintro e2 w2 ⟨rfl, hb2⟩
  have b2 := b1.trans (hb2.mono b1.size)
  have b3 := b2.alloc b2.size (.cells (RC q (.slice none 0 0) (.slice none 0 0)) 66)
  go_wp2_with fail
  go_ret
  exact ⟨by first | rfl | simp, b3⟩

set_option maxRecDepth 100000 in
set_option maxHeartbeats 4000000 in
theorem plays_yes (q : Qt) (sl : List SP) (A0 : Option Addr) (c0' : Nat) (w : World) (hk : q.ok) (hS : Ss w w.heap.size sl A0 c0') :
    Calls Try.prog 9 #[.agg #[.int .i64 q.a, .int .i64 q.b, .int .i64 q.c, .int .i64 q.d, .int .i64 q.e, .int .i64 q.f, .int .i64 q.h], .slice A0 sl.length c0'] w fun e w' => e = .returned (.bool true) ∧ Below w.heap.size w w' := by
  have hm := fun w' => new_ok q w' hk
  have hr := fun w' => refNew_ok q w' hk
  have hsh := fun wx (hb : Below w.heap.size w wx) => shortS_any sl A0 c0' wx (⟨hS.1, hS.2.1, hS.2.2.1, (hS.below hb).2.2.2.1.more hb.size, fun x hx => ((hS.below hb).2.2.2.2 x hx).more hb.size⟩)
  have hT := hS.take (k := min 60 sl.length) (by omega)
  rw [show sl.take (min 60 sl.length) = sl.take 60 by rw [List.take_eq_take_iff]; omega] at hT
  have htl : (sl.take 60).length ≤ 60 := by rw [List.length_take]; omega
  generalize sl.take 60 = tl at *
  obtain ⟨kq, b0, z0⟩ := boxesQ q w
  go_enter Try.func9, Try.ntmps9
  go_wp2_with fail
  generalize (w.alloc (.cells #[.int .i64 q.a, .int .i64 q.b, .int .i64 q.c, .int .i64 q.d, .int .i64 q.e, .int .i64 q.f, .int .i64 q.h] 59)) = W at *
  obtain ⟨c0, c1, c2, c3, c4, c5, c6⟩ := qcells kq
  have lq := kq.lt
  go_wp2_with fail
  refine (hm _).mono ?_
  rintro e2 w2 ⟨bp, rfl, hb2, mp, Z, h2, h3, h4, h5⟩
  have kq2 := kq.below hb2 lq
  clear c0 c1 c2 c3 c4 c5 c6
  obtain ⟨c0, c1, c2, c3, c4, c5, c6⟩ := qcells kq2
  have lq2 := kq2.lt
  go_wp2_with fail
  refine (hr _).mono ?_
  rintro e1 w1 ⟨rfl, hb1⟩
  have h4' := h4.below hb1
  have hlt4 := h4.lt
  have bW1 := hb2.trans (hb1.mono hb2.size)
  have hs1 := hb1.size
  have hs2 := hb2.size
  have bZ1 : Below w1.heap.size w1 (w1.alloc (.cells (RC q (.slice none 0 0) (.slice none 0 0)) 66)) := (Below.refl _ _).alloc (Nat.le_refl _) _
  have B0 : BkS W q w1.heap.size ⟨[], []⟩ bp mp Z (w1.alloc (.cells (RC q (.slice none 0 0) (.slice none 0 0)) 66)) := ⟨bW1.trans (bZ1.mono bW1.size), h2, h3, h4'.below bZ1, fun g hg => (h5 g hg).elim (fun h => h.elim) id, fun e => by
    obtain ⟨ms, Y, e1, e2, e3, e4, e5, e6, e7, e8⟩ := h4'
    have := (e7 _ e).2.2
    omega, by omega, by omega, bW1.size⟩
  have R0 : RfS q w1.heap.size [] [] bp mp (fun _ => False) [] none 0 (.slice none 0 0) (w1.alloc (.cells (RC q (.slice none 0 0) (.slice none 0 0)) 66)) := ⟨Blk.new w1 66 (RC q (.slice none 0 0) (.slice none 0 0)), ⟨EsF.nil _ _, fun _ h => h.elim, rfl, none, 0, rfl, Nat.zero_le _, fun j hj => absurd hj (Nat.not_lt_zero _)⟩, fun _ h => h.elim⟩
  have bA := b0.trans ((bW1.trans (bZ1.mono bW1.size)).mono b0.size)
  have B0 := vers.lay B0
  have R0 := vers.lay R0
  clear hm hr h2 h3 h4 h5 hb1 hb2 c0 c1 c2 c3 c4 c5 c6 kq kq2 lq lq2 h4' hlt4 bW1 hs1 hs2 bZ1
  go_wp2_with fail
  generalize w1.alloc (.cells (RC q (.slice none 0 0) (.slice none 0 0)) 66) = W1 at *
  generalize w1.heap.size = g at *
  refine (hsh _ bA).mono ?_
  rintro e3 w3 ⟨rfl, rfl⟩
  have htl2 : tl.length ≤ 140737488355328 := by omega
  go_wp2_with fail
  go_loopw [59, 5] (fun i u wr => ∃ (j : Nat) (b : Bk) (bp mp : Nat) (Z F : Nat → Prop) (es : List E) (A : Option Addr) (c : Nat) (v : Value), j ≤ tl.length ∧ i = .int .i64 (j : Int) ∧ u = .pointer (some ⟨bp, 0, none⟩) ∧ BkS W q g b bp mp Z wr ∧ RfS q g b.L b.P bp mp F es A c v wr ∧ Hid (BInv q j b)) (fun i _ _ => tl.length - (intOf i).toNat)
  case atStart => exact ⟨0, ⟨[], []⟩, bp, mp, Z, fun _ => False, [], none, 0, .slice none 0 0, Nat.zero_le _, rfl, rfl, B0.out, R0.out, vers.lay (BInv.nil hk)⟩
  case round =>
    clear B0 R0
    obtain ⟨j, ⟨L, P⟩, bp, mp, Z, F, es, A, c, v, hj, rfl, rfl, hB, hR, hI⟩ := hrel
    have hI := hI.out
    simp only [] at hR
    have bwr := b0.trans (hB.bel.mono b0.size)
    have hbpl := hB.at_.lt
    obtain ⟨vA, vn, vc, rfl⟩ := hR.rat.txt.shape
    by_cases hlt : j < tl.length
    · obtain ⟨bk, off, rfl, hbk, x0, x1, x2, x3, hx⟩ := (hT.below bwr).at_ hlt
      have hxw := hT.2.2.2.2 _ (List.getElem_mem hlt)
      generalize tl[j] = x at x0 x1 x2 x3 hx hxw
      obtain ⟨sk, sops, sA, sc, ss, sps, sD, sd⟩ := x
      simp only [] at x0 x1 x2 x3
      obtain ⟨hO, hTs, hss⟩ := hx
      have hOA := fun (hn : sops ≠ []) g off e => (show g < W.heap.size by have := os_lt hxw.1 hn g off e; have := b0.size; omega)
      simp only [] at hO hTs hss hOA
      have bZ : Below wr.heap.size wr (wr.alloc (.cells #[.int .i64 sk, .slice sA sops.length sc, .string ss, .slice sD sps.length sd] 72)) := (Below.refl _ _).alloc (Nat.le_refl _) _
      have kZ := Blk.new wr 72 #[.int .i64 sk, .slice sA sops.length sc, .string ss, .slice sD sps.length sd]
      replace hOA := hOA
      have hPl : P.length ≤ 1000000 := by have := hI.plen; simp only [] at this; omega
      replace hB := hB.below bZ
      have hRZ := hR.below bZ
      have hOZ := ((hO.more bwr.size).below bZ).more bZ.size
      have hTZ := ((hTs.more bwr.size).below bZ).more bZ.size
      have kZs := bZ.size
      generalize hWZ : wr.alloc (.cells #[.int .i64 sk, .slice sA sops.length sc, .string ss, .slice sD sps.length sd] 72) = WZ at *
      clear hR hO hTs
      obtain ⟨⟨r0, r1, r2, r3, r4, r5, r6, r7, r8⟩, _⟩ := cells9 hRZ.blk
      have lRZ := hRZ.blk.lt
      obtain ⟨y0, y1, y2, y3⟩ := cells4 kZ
      have lKZ := kZ.lt
      by_cases k1 : sk = 1
      · have d1 := eq_yes k1
        clear k1
        go_wp2_with fail
        refine (MdHead.judge hB.md hk hI hOZ).mono ?_
        rintro e w3 ⟨rfl, hb3⟩
        have B3 := hB.below hb3
        have R3 := hRZ.below hb3
        have kS3 := kZ.below hb3 kZ.lt
        have OZ3 := (hOZ.below hb3).more hb3.size
        clear r0 r1 r2 r3 r4 r5 r6 r7 r8 y0 y1 y2 y3
        obtain ⟨⟨r0, r1, r2, r3, r4, r5, r6, r7, r8⟩, _⟩ := cells9 R3.blk
        have lR3 := R3.blk.lt
        obtain ⟨y0, y1, y2, y3⟩ := cells4 kS3
        have lK3 := kS3.lt
        have hpb := playP_two q ⟨L, P⟩ sops
        go_wp2_with fail
        refine (refPlay_any q sops sA sc es A c _ L P w3 F R3.rat OZ3 hk hI.inv hPl).mono ?_
        rintro e w4 ⟨es4, A4, c4, v4, rfl, hb4, hR4⟩
        obtain ⟨u4, m4, d4', rfl⟩ := hR4.txt.shape
        have B4 := B3.below hb4
        have R4 := R3.below hb4
        rw [hpb.1, hpb.2]
        simp only []
        generalize behindP q L sops = rr at *
        obtain ⟨r1', r2', r3'⟩ := rr
        simp only []
        clear hpb
        have bY : Below w4.heap.size w4 (w4.alloc (.cells (RC q (.slice A4 es4.length c4) (.slice u4 m4 d4')) 66)) := (Below.refl _ _).alloc (Nat.le_refl _) _
        have B5 := B4.below bY
        have R5 := R4.below bY
        go_wp2_with fail
        exact ⟨⟨j + 1, ⟨L, P⟩, bp, mp, Z, F, es, A, c, _, hlt, by go_num, rfl, B5, R5, vers.lay (hI.more (by omega))⟩, by simp [intOf]; omega⟩
      have d1 := eq_no k1
      by_cases k2 : sk = 2
      · have d2 := eq_yes k2
        clear k1 k2
        have hg := MdHead.get hB.md (s := ss) hss
        have hpe := hRZ.rat.pe_
        simp only [] at hg
        generalize hgp : getP L ss = r at hg
        obtain ⟨rs, rl, rb⟩ := r
        have HGP := vers.lay hgp
        clear hgp
        go_wp2_with fail
        refine hg.mono ?_
        rintro e w3 ⟨hb3, A3, c3, rfl, hO3⟩
        simp only [] at hO3
        have bY : Below w3.heap.size w3 (w3.alloc (.cells #[.string rs, .slice A3 rl.length c3] 79)) := (Below.refl _ _).alloc (Nat.le_refl _) _
        have kY := Blk.new w3 79 #[.string rs, .slice A3 rl.length c3]
        have b3Y := hb3.trans (bY.mono hb3.size)
        have B4 := hB.below b3Y
        have R4 := hRZ.below b3Y
        have kS4 := kZ.below b3Y kZ.lt
        have hV3 := (hO3.agree (Agree.of_below bY fun g hg => hg.2)).vs.vs
        simp only [] at hV3
        clear hO3 hg
        clear r0 r1 r2 r3 r4 r5 r6 r7 r8 y0 y1 y2 y3
        generalize hWY : w3.alloc (.cells #[.string rs, .slice A3 rl.length c3] 79) = w4 at *
        obtain ⟨⟨r0, r1, r2, r3, r4, r5, r6, r7, r8⟩, _⟩ := cells9 R4.blk
        have lR4 := R4.blk.lt
        obtain ⟨y0, y1, y2, y3⟩ := cells4 kS4
        have lK4 := kS4.lt
        have hgr := refGet_any es A c ss w4 R4.rat.es_.es
        rw [hpe, HGP.out] at hgr
        go_wp2_with fail
        refine hgr.mono ?_
        rintro e w5 ⟨hb5, A5, c5, rfl, hO5⟩
        simp only [] at hO5
        have bX : Below w5.heap.size w5 (w5.alloc (.cells #[.string rs, .slice A5 rl.length c5] 79)) := (Below.refl _ _).alloc (Nat.le_refl _) _
        have kX := Blk.new w5 79 #[.string rs, .slice A5 rl.length c5]
        have b5X := hb5.trans (bX.mono hb5.size)
        have B6 := B4.below b5X
        have R6 := R4.below b5X
        have kY6 := kY.below b5X kY.lt
        have hV5 := (hO5.agree (Agree.of_below bX fun g hg => hg.2)).vs.vs
        have hV36 := hV3.at_world b5X
        simp only [] at hV5
        clear hO5 hgr
        clear r0 r1 r2 r3 r4 r5 r6 r7 r8 y0 y1 y2 y3
        generalize hWX : w5.alloc (.cells #[.string rs, .slice A5 rl.length c5] 79) = w6 at *
        have z0' := kY6.cell 0
        have z1' := kY6.cell 1
        have z2' := kX.cell 0
        have z3' := kX.cell 1
        simp only [List.getElem?_toArray, List.getElem?_cons_zero, List.getElem?_cons_succ] at z0' z1' z2' z3'
        have lY6 := kY6.lt
        have lX6 := kX.lt
        have dbb : (rb != rb) = false := by simp
        go_wp2_with fail
        refine (like_any rs rs rl rl A3 A5 c3 c5 w6 hV36 hV5).mono ?_
        rintro e w7 ⟨rfl, hb7⟩
        rw [decide_eq_true (rfl : rs = rs), decide_eq_true (rfl : rl = rl)]
        have B7 := B6.below hb7
        have R7 := R6.below hb7
        go_wp2_with fail
        exact ⟨⟨j + 1, ⟨L, P⟩, bp, mp, Z, F, es, A, c, _, hlt, by go_num, rfl, B7, R7, vers.lay (hI.more (by omega))⟩, by simp [intOf]; omega⟩
      have d2 := eq_no k2
      by_cases k3 : sk = 3
      · have d3 := eq_yes k3
        clear k1 k2 k3
        have hL1 : L.length ≤ 1000 := by have := hI.inv.le hk; simp only [] at this; omega
        go_upto_region 27 with (fail)
        have yy3 := y3
        clear y0 y1 y2 y3
        have hS0 : Below WZ.heap.size WZ WZ.drew := (Below.refl _ _).drew
        refine mix.region_D (fun w' => Below WZ.heap.size WZ w') (fun _ => false) (by kernel_rfl) ?_
        generalize WZ.drew = Wd at hS0 ⊢
        refine mix.D_take (i := 0) (v := ?_) rfl (by kernel_rfl) (by kernel_rfl) (fun _ _ _ h => h) (Or.inl ⟨by rfl, ?_⟩) hS0 ?_
        rotate_left
        · intro w' hSw
          have y0 := (hSw.cell (p := ⟨g, 0, none⟩) lRZ).trans r0
          have y1 := (hSw.cell (p := ⟨g, 1, none⟩) lRZ).trans r1
          have y2 := (hSw.cell (p := ⟨g, 2, none⟩) lRZ).trans r2
          have y3 := (hSw.cell (p := ⟨g, 3, none⟩) lRZ).trans r3
          have y4 := (hSw.cell (p := ⟨g, 4, none⟩) lRZ).trans r4
          have y5 := (hSw.cell (p := ⟨g, 5, none⟩) lRZ).trans r5
          have y6 := (hSw.cell (p := ⟨g, 6, none⟩) lRZ).trans r6
          have y7 := (hSw.cell (p := ⟨g, 7, none⟩) lRZ).trans r7
          have y8 := (hSw.cell (p := ⟨g, 8, none⟩) lRZ).trans r8
          have y9 := (hSw.cell (p := ⟨wr.heap.size, 3, none⟩) lKZ).trans yy3
          try simp only [List.getElem_toArray, List.getElem_cons_zero, List.getElem_cons_succ]
          go_simp
          exact rfl
        try simp only [Act.put, List.setIfInBounds_toArray, List.set_cons_zero, List.set_cons_succ, List.getElem_toArray, List.getElem_cons_zero, List.getElem_cons_succ]
        refine mix.D_take (i := 1) (v := ?_) rfl (by kernel_rfl) (by kernel_rfl) (fun _ _ _ h => h) (Or.inl ⟨by rfl, ?_⟩) hS0 ?_
        rotate_left
        · intro w' hSw
          have y0 := (hSw.cell (p := ⟨g, 0, none⟩) lRZ).trans r0
          have y1 := (hSw.cell (p := ⟨g, 1, none⟩) lRZ).trans r1
          have y2 := (hSw.cell (p := ⟨g, 2, none⟩) lRZ).trans r2
          have y3 := (hSw.cell (p := ⟨g, 3, none⟩) lRZ).trans r3
          have y4 := (hSw.cell (p := ⟨g, 4, none⟩) lRZ).trans r4
          have y5 := (hSw.cell (p := ⟨g, 5, none⟩) lRZ).trans r5
          have y6 := (hSw.cell (p := ⟨g, 6, none⟩) lRZ).trans r6
          have y7 := (hSw.cell (p := ⟨g, 7, none⟩) lRZ).trans r7
          have y8 := (hSw.cell (p := ⟨g, 8, none⟩) lRZ).trans r8
          have y9 := (hSw.cell (p := ⟨wr.heap.size, 3, none⟩) lKZ).trans yy3
          try simp only [List.getElem_toArray, List.getElem_cons_zero, List.getElem_cons_succ]
          go_simp
          exact rfl
        try simp only [Act.put, List.setIfInBounds_toArray, List.set_cons_zero, List.set_cons_succ, List.getElem_toArray, List.getElem_cons_zero, List.getElem_cons_succ]
        refine mix.D_take (i := 2) (v := ?_) rfl (by kernel_rfl) (by kernel_rfl) (fun _ _ _ h => h) (Or.inl ⟨by rfl, ?_⟩) hS0 ?_
        rotate_left
        · intro w' hSw
          have y0 := (hSw.cell (p := ⟨g, 0, none⟩) lRZ).trans r0
          have y1 := (hSw.cell (p := ⟨g, 1, none⟩) lRZ).trans r1
          have y2 := (hSw.cell (p := ⟨g, 2, none⟩) lRZ).trans r2
          have y3 := (hSw.cell (p := ⟨g, 3, none⟩) lRZ).trans r3
          have y4 := (hSw.cell (p := ⟨g, 4, none⟩) lRZ).trans r4
          have y5 := (hSw.cell (p := ⟨g, 5, none⟩) lRZ).trans r5
          have y6 := (hSw.cell (p := ⟨g, 6, none⟩) lRZ).trans r6
          have y7 := (hSw.cell (p := ⟨g, 7, none⟩) lRZ).trans r7
          have y8 := (hSw.cell (p := ⟨g, 8, none⟩) lRZ).trans r8
          have y9 := (hSw.cell (p := ⟨wr.heap.size, 3, none⟩) lKZ).trans yy3
          try simp only [List.getElem_toArray, List.getElem_cons_zero, List.getElem_cons_succ]
          go_simp
          exact rfl
        try simp only [Act.put, List.setIfInBounds_toArray, List.set_cons_zero, List.set_cons_succ, List.getElem_toArray, List.getElem_cons_zero, List.getElem_cons_succ]
        refine mix.D_take (i := 4) (v := ?_) rfl (by kernel_rfl) (by kernel_rfl) (fun _ _ _ h => h) (Or.inl ⟨by rfl, ?_⟩) hS0 ?_
        rotate_left
        · intro w' hSw
          have y0 := (hSw.cell (p := ⟨g, 0, none⟩) lRZ).trans r0
          have y1 := (hSw.cell (p := ⟨g, 1, none⟩) lRZ).trans r1
          have y2 := (hSw.cell (p := ⟨g, 2, none⟩) lRZ).trans r2
          have y3 := (hSw.cell (p := ⟨g, 3, none⟩) lRZ).trans r3
          have y4 := (hSw.cell (p := ⟨g, 4, none⟩) lRZ).trans r4
          have y5 := (hSw.cell (p := ⟨g, 5, none⟩) lRZ).trans r5
          have y6 := (hSw.cell (p := ⟨g, 6, none⟩) lRZ).trans r6
          have y7 := (hSw.cell (p := ⟨g, 7, none⟩) lRZ).trans r7
          have y8 := (hSw.cell (p := ⟨g, 8, none⟩) lRZ).trans r8
          have y9 := (hSw.cell (p := ⟨wr.heap.size, 3, none⟩) lKZ).trans yy3
          try simp only [List.getElem_toArray, List.getElem_cons_zero, List.getElem_cons_succ]
          go_simp
          exact rfl
        try simp only [Act.put, List.setIfInBounds_toArray, List.set_cons_zero, List.set_cons_succ, List.getElem_toArray, List.getElem_cons_zero, List.getElem_cons_succ]
        refine mix.D_take (i := 5) (v := ?_) rfl (by kernel_rfl) (by kernel_rfl) (fun _ _ _ h => h) (Or.inl ⟨by rfl, ?_⟩) hS0 ?_
        rotate_left
        · intro w' hSw
          have y0 := (hSw.cell (p := ⟨g, 0, none⟩) lRZ).trans r0
          have y1 := (hSw.cell (p := ⟨g, 1, none⟩) lRZ).trans r1
          have y2 := (hSw.cell (p := ⟨g, 2, none⟩) lRZ).trans r2
          have y3 := (hSw.cell (p := ⟨g, 3, none⟩) lRZ).trans r3
          have y4 := (hSw.cell (p := ⟨g, 4, none⟩) lRZ).trans r4
          have y5 := (hSw.cell (p := ⟨g, 5, none⟩) lRZ).trans r5
          have y6 := (hSw.cell (p := ⟨g, 6, none⟩) lRZ).trans r6
          have y7 := (hSw.cell (p := ⟨g, 7, none⟩) lRZ).trans r7
          have y8 := (hSw.cell (p := ⟨g, 8, none⟩) lRZ).trans r8
          have y9 := (hSw.cell (p := ⟨wr.heap.size, 3, none⟩) lKZ).trans yy3
          try simp only [List.getElem_toArray, List.getElem_cons_zero, List.getElem_cons_succ]
          go_simp
          exact rfl
        try simp only [Act.put, List.setIfInBounds_toArray, List.set_cons_zero, List.set_cons_succ, List.getElem_toArray, List.getElem_cons_zero, List.getElem_cons_succ]
        refine mix.D_take (i := 6) (v := ?_) rfl (by kernel_rfl) (by kernel_rfl) (fun _ _ _ h => h) (Or.inl ⟨by rfl, ?_⟩) hS0 ?_
        rotate_left
        · intro w' hSw
          have y0 := (hSw.cell (p := ⟨g, 0, none⟩) lRZ).trans r0
          have y1 := (hSw.cell (p := ⟨g, 1, none⟩) lRZ).trans r1
          have y2 := (hSw.cell (p := ⟨g, 2, none⟩) lRZ).trans r2
          have y3 := (hSw.cell (p := ⟨g, 3, none⟩) lRZ).trans r3
          have y4 := (hSw.cell (p := ⟨g, 4, none⟩) lRZ).trans r4
          have y5 := (hSw.cell (p := ⟨g, 5, none⟩) lRZ).trans r5
          have y6 := (hSw.cell (p := ⟨g, 6, none⟩) lRZ).trans r6
          have y7 := (hSw.cell (p := ⟨g, 7, none⟩) lRZ).trans r7
          have y8 := (hSw.cell (p := ⟨g, 8, none⟩) lRZ).trans r8
          have y9 := (hSw.cell (p := ⟨wr.heap.size, 3, none⟩) lKZ).trans yy3
          try simp only [List.getElem_toArray, List.getElem_cons_zero, List.getElem_cons_succ]
          go_simp
          exact rfl
        try simp only [Act.put, List.setIfInBounds_toArray, List.set_cons_zero, List.set_cons_succ, List.getElem_toArray, List.getElem_cons_zero, List.getElem_cons_succ]
        refine mix.D_one (k := 3) rfl (by kernel_rfl) (fun K' hK => ?_)
        rw [if_pos (by first | rfl | simp [Region.wanted, yielded])]
        simp only [List.getElem_toArray, List.getElem_cons_zero, List.getElem_cons_succ]
        go_wp2_with fail
        refine (MdHead.names (hB.below hS0).md hk hI ((hTZ.below hS0).more hS0.size)).mono ?_
        rintro e x1w ⟨v1, rfl, hc1, hT1⟩
        obtain ⟨A1', m1, c1', rfl⟩ := (TxF.of hT1).shape
        have hd1 : Below WZ.heap.size WZ x1w := hS0.trans (hc1.mono hS0.size)
        refine hK.out _ _ (fun _ => hd1) ?_
        clear hK K'
        try simp only [Act.put, List.setIfInBounds_toArray, List.set_cons_zero, List.set_cons_succ]
        refine mix.D_one (k := 7) rfl (by kernel_rfl) (fun K' hK => ?_)
        rw [if_pos (by first | rfl | simp [Region.wanted, yielded])]
        simp only [List.getElem_toArray, List.getElem_cons_zero, List.getElem_cons_succ]
        go_wp2_with fail
        refine (refNames9_any q F es A c _ L P sps sD sd _ (hRZ.rat.now hd1) ((hTZ.below hd1).more hd1.size) hL1).mono ?_
        rintro e x2w ⟨v2, rfl, hc2, hT2⟩
        obtain ⟨A2', m2, c2', rfl⟩ := (TxF.of hT2).shape
        have hd2 : Below WZ.heap.size WZ x2w := hd1.trans (hc2.mono hd1.size)
        refine hK.out _ _ (fun _ => hd2) ?_
        clear hK K'
        try simp only [Act.put, List.setIfInBounds_toArray, List.set_cons_zero, List.set_cons_succ]
        refine mix.D_one (k := 8) rfl (by kernel_rfl) (fun K' hK => ?_)
        rw [if_pos (by first | rfl | simp [Region.wanted, yielded])]
        simp only [List.getElem_toArray, List.getElem_cons_zero, List.getElem_cons_succ]
        go_wp2_with fail
        refine (sameTexts_any _ _ _ _ _ _ (hT1.below hc2) hT2).mono ?_
        rintro e x3w ⟨rfl, hc3⟩
        have hd3 : Below WZ.heap.size WZ x3w := hd2.trans (hc3.mono hd2.size)
        refine hK.out _ _ (fun _ => hd3) ?_
        clear hK K'
        try simp only [Act.put, List.setIfInBounds_toArray, List.set_cons_zero, List.set_cons_succ]
        refine mix.D_take (i := 9) (v := ?_) rfl (by kernel_rfl) (by kernel_rfl) (fun _ _ _ h => h) (Or.inl ⟨by rfl, ?_⟩) hd3 ?_
        rotate_left
        · intro w' hSw
          have y0 := (hSw.cell (p := ⟨g, 0, none⟩) lRZ).trans r0
          have y1 := (hSw.cell (p := ⟨g, 1, none⟩) lRZ).trans r1
          have y2 := (hSw.cell (p := ⟨g, 2, none⟩) lRZ).trans r2
          have y3 := (hSw.cell (p := ⟨g, 3, none⟩) lRZ).trans r3
          have y4 := (hSw.cell (p := ⟨g, 4, none⟩) lRZ).trans r4
          have y5 := (hSw.cell (p := ⟨g, 5, none⟩) lRZ).trans r5
          have y6 := (hSw.cell (p := ⟨g, 6, none⟩) lRZ).trans r6
          have y7 := (hSw.cell (p := ⟨g, 7, none⟩) lRZ).trans r7
          have y8 := (hSw.cell (p := ⟨g, 8, none⟩) lRZ).trans r8
          have y9 := (hSw.cell (p := ⟨wr.heap.size, 3, none⟩) lKZ).trans yy3
          try simp only [List.getElem_toArray, List.getElem_cons_zero, List.getElem_cons_succ]
          go_simp
          exact rfl
        try simp only [Act.put, List.setIfInBounds_toArray, List.set_cons_zero, List.set_cons_succ, List.getElem_toArray, List.getElem_cons_zero, List.getElem_cons_succ]
        refine mix.D_done (by kernel_rfl) ?_ _
        have B3 := hB.below hd3
        have R3 := hRZ.below hd3
        go_wp2_with fail
        exact ⟨⟨j + 1, ⟨L, P⟩, bp, mp, Z, F, es, A, c, _, hlt, by go_num, rfl, B3, R3, vers.lay (hI.more (by omega))⟩, by simp [intOf]; omega⟩
      have d3 := eq_no k3
      by_cases k4 : sk = 4
      · have d4 := eq_yes k4
        clear k1 k2 k3 k4
        go_wp2_with fail
        refine (same_ok W q bp mp j ⟨L, P⟩ F es A c _ WZ hB.md hRZ.rat hk hI (by omega)).mono ?_
        rintro e w3 ⟨rfl, hb3⟩
        have B3 := hB.below hb3
        have R3 := hRZ.below hb3
        go_wp2_with fail
        exact ⟨⟨j + 1, ⟨L, P⟩, bp, mp, Z, F, es, A, c, _, hlt, by go_num, rfl, B3, R3, vers.lay (hI.more (by omega))⟩, by simp [intOf]; omega⟩
      have d4 := eq_no k4
      by_cases k5 : sk = 5
      · have d5 := eq_yes k5
        clear k1 k2 k3 k4 k5
        go_wp2_with fail
        refine (same_ok W q bp mp j ⟨L, P⟩ F es A c _ WZ hB.md hRZ.rat hk hI (by omega)).mono ?_
        rintro e w3 ⟨rfl, hb3⟩
        have B3 := hB.below hb3
        have R3 := hRZ.below hb3
        go_wp2_with fail
        exact ⟨⟨j + 1, ⟨L, P⟩, bp, mp, Z, F, es, A, c, _, hlt, by go_num, rfl, B3, R3, vers.lay (hI.more (by omega))⟩, by simp [intOf]; omega⟩
      have d5 := eq_no k5
      by_cases k6 : sk = 6
      · have d6 := eq_yes k6
        clear k1 k2 k3 k4 k5 k6
        go_wp2_with fail
        refine (copy_ok q bp mp Z ⟨L, P⟩ WZ hB.at_).mono ?_
        rintro e w3 ⟨cp, rfl, hN3⟩
        have hb3 := hN3.1
        have B3 := hB.below hb3
        have R3 := hRZ.below hb3
        have kS3 := kZ.below hb3 kZ.lt
        have OZ3 := (hOZ.below hb3).more hb3.size
        clear r0 r1 r2 r3 r4 r5 r6 r7 r8 y0 y1 y2 y3
        obtain ⟨⟨r0, r1, r2, r3, r4, r5, r6, r7, r8⟩, _⟩ := cells9 R3.blk
        have lR3 := R3.blk.lt
        obtain ⟨y0, y1, y2, y3⟩ := cells4 kS3
        have lK3 := kS3.lt
        go_wp2_with fail
        refine (B3.play R3.blk.lt hk hI (by omega) OZ3 hOA).mono ?_
        rintro e w4 ⟨rfl, hK4, Z4, hB4⟩
        obtain ⟨mp', Z', h1c, h2c, BC⟩ := hB.copied hRZ.blk.lt hN3 hK4
        have R4 := R3.keep hB.gb hB.gm hK4
        have RC4 : RfS q g L P cp mp' F es A c _ w4 := ⟨R4.blk, R4.rat, fun k hk' => ⟨by have := hRZ.rat.flt k hk'; omega, by have := hRZ.rat.flt k hk'; omega, (R4.off k hk').2.2⟩⟩
        clear hN3
        go_wp2_with fail
        exact ⟨⟨j + 1, ⟨L, P⟩, cp, mp', Z', F, es, A, c, _, hlt, by go_num, rfl, BC, RC4, vers.lay (hI.more (by omega))⟩, by simp [intOf]; omega⟩
      have d6 := eq_no k6
      clear k1 k2 k3 k4 k5 k6
      have hI2 := hI.play hk sops
      go_wp2_with fail
      refine (hB.play hRZ.blk.lt hk hI (by omega) hOZ hOA).mono ?_
      rintro e w3 ⟨rfl, hK3, Z3, hB3⟩
      have R3 := hRZ.keep hB.gb hB.gm hK3
      have kS3 := hK3.blk kZ (fun hs => by rcases hs with h | h <;> omega)
      have bw3 := b0.trans (hB3.bel.mono b0.size)
      have OZ3 := (hxw.1.below bw3).more bw3.size
      have hlt3 := hB3.at_.lt
      simp only [] at OZ3
      clear r0 r1 r2 r3 r4 r5 r6 r7 r8 y0 y1 y2 y3
      obtain ⟨⟨r0, r1, r2, r3, r4, r5, r6, r7, r8⟩, _⟩ := cells9 R3.blk
      have lR3 := R3.blk.lt
      obtain ⟨y0, y1, y2, y3⟩ := cells4 kS3
      have lK3 := kS3.lt
      have hpl := refPlay_any q sops sA sc es A c _ L P w3 F R3.rat OZ3 hk hI.inv hPl
      generalize playP q ⟨L, P⟩ sops = s at *
      obtain ⟨⟨L', P'⟩, er, at'⟩ := s
      simp only [] at hpl hB3 hI2 ⊢
      go_wp2_with fail
      refine hpl.mono ?_
      rintro e w4 ⟨es4, A4, c4, v4, rfl, hb4, hR4⟩
      obtain ⟨u4, m4, d4', rfl⟩ := hR4.txt.shape
      have B4 := hB3.below hb4
      have R4 := R3.below hb4
      have bY : Below w4.heap.size w4 (w4.alloc (.cells (RC q (.slice A4 es4.length c4) (.slice u4 m4 d4')) 66)) := (Below.refl _ _).alloc (Nat.le_refl _) _
      have kY := Blk.new w4 66 (RC q (.slice A4 es4.length c4) (.slice u4 m4 d4'))
      have B5 := B4.below bY
      have R5 := R4.below bY
      have hR5 := hR4.now bY
      have hs4 := hb4.size
      have hs5 := bY.size
      clear r0 r1 r2 r3 r4 r5 r6 r7 r8 y0 y1 y2 y3 hpl
      generalize hWY : w4.alloc (.cells (RC q (.slice A4 es4.length c4) (.slice u4 m4 d4')) 66) = w5 at *
      obtain ⟨⟨r0, r1, r2, r3, r4, r5, r6, r7, r8⟩, _⟩ := cells9 kY
      have lY5 := kY.lt
      obtain ⟨_, n0, n1, n2, n3, n4, n5, n6, n7, n8⟩ := cells9 R5.blk
      have lR5 := R5.blk.lt
      have kN := nine_blk R5.blk q (.slice A4 es4.length c4) (.slice u4 m4 d4')
      have kK := nine_keep (Below.refl w5.heap.size w5) g q (.slice A4 es4.length c4) (.slice u4 m4 d4')
      unfold nine at kN kK
      go_wp2_with fail
      generalize (((((((((World.setCell w5 ⟨g, 0, none⟩ (.int .i64 q.a)).setCell ⟨g, 1, none⟩ (.int .i64 q.b)).setCell ⟨g, 2, none⟩ (.int .i64 q.c)).setCell ⟨g, 3, none⟩ (.int .i64 q.d)).setCell ⟨g, 4, none⟩ (.int .i64 q.e)).setCell ⟨g, 5, none⟩ (.int .i64 q.f)).setCell ⟨g, 6, none⟩ (.int .i64 q.h)).setCell ⟨g, 7, none⟩ (.slice A4 es4.length c4)).setCell ⟨g, 8, none⟩ (.slice u4 m4 d4')) = W9 at kN kK ⊢
      have B9 := B5.set kK
      have hs9 := kK.size
      have R9 : RfS q g L' P' bp mp (NewB F w3 w4) es4 A4 c4 (.slice u4 m4 d4') W9 := ⟨kN, hR5.mv (fun k hk' => kK.block k (by rcases hk' with h | h; have := R3.rat.flt k h; omega; omega) (by rcases hk' with h | h; exact (R3.off k h).2.2; omega)) (fun k hk' => hk') (fun k hk' => by rcases hk' with h | h; have := R3.rat.flt k h; omega; omega), fun k hk' => by rcases hk' with h | h; exact R3.off k h; exact ⟨by omega, by omega, by omega⟩⟩
      exact ⟨⟨j + 1, ⟨L', P'⟩, bp, mp, Z3, _, es4, A4, c4, _, hlt, by go_num, rfl, B9, R9, vers.lay hI2⟩, by simp [intOf]; omega⟩
    · obtain rfl : j = tl.length := by omega
      obtain ⟨⟨r0, r1, r2, r3, r4, r5, r6, r7, r8⟩, _⟩ := cells9 hR.blk
      have lR := hR.blk.lt
      go_wp2_with fail
      refine (same_ok W q bp mp tl.length ⟨L, P⟩ F es A c _ wr hB.md hR.rat hk hI (by omega)).mono ?_
      rintro e w3 ⟨rfl, hb3⟩
      go_wp2_with fail
      go_ret
      exact ⟨by first | rfl | simp, bwr.trans (hb3.mono bwr.size)⟩

theorem law_plays (q : Qt) (sl : List SP) (A : Option Addr) (c : Nat) (w : World) (hS : Ss w w.heap.size sl A c) :
    Calls Try.prog 9 #[.agg #[.int .i64 q.a, .int .i64 q.b, .int .i64 q.c, .int .i64 q.d, .int .i64 q.e, .int .i64 q.f, .int .i64 q.h], .slice A sl.length c] w fun e w' => e = .returned (.bool true) ∧ Below w.heap.size w w' := by
  by_cases hk : q.ok
  · exact plays_yes q sl A c w hk hS
  · exact plays_no q sl A c w hk

end Go.Proofs.Ytjlglfjikfpboaa.books
