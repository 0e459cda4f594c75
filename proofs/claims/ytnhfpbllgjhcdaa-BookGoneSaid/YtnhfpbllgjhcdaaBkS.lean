/- The walk of BookCommutes. -/
import Derived.Test.YtnhfpbllgjhcdaaBkR


namespace Go.Proofs.Ytnhfpbllgjhcdaa.books
set_option linter.unusedVariables false
set_option linter.unusedSimpArgs false
open Go.RowKit Go.Shelf Go.Proofs.Ytnhfpbllgjhcdaa.base Go.Proofs.Ytnhfpbllgjhcdaa.quotas Go.Proofs.Ytnhfpbllgjhcdaa.vers Go.Proofs.Ytnhfpbllgjhcdaa.nodes Go.Proofs.Ytnhfpbllgjhcdaa.trees Go.Proofs.Ytnhfpbllgjhcdaa.texts

theorem boxesQOO (qa qb qc qd qe qf qh : Int) (x y : O) (w : World) : Blk (((w.alloc (.cells #[.int .i64 qa, .int .i64 qb, .int .i64 qc, .int .i64 qd, .int .i64 qe, .int .i64 qf, .int .i64 qh] 23)).alloc (.cells (oc x) 62)).alloc (.cells (oc y) 62)) w.heap.size 23 #[.int .i64 qa, .int .i64 qb, .int .i64 qc, .int .i64 qd, .int .i64 qe, .int .i64 qf, .int .i64 qh] ∧ Blk (((w.alloc (.cells #[.int .i64 qa, .int .i64 qb, .int .i64 qc, .int .i64 qd, .int .i64 qe, .int .i64 qf, .int .i64 qh] 23)).alloc (.cells (oc x) 62)).alloc (.cells (oc y) 62)) (w.heap.size + 1) 62 (oc x) ∧ Blk (((w.alloc (.cells #[.int .i64 qa, .int .i64 qb, .int .i64 qc, .int .i64 qd, .int .i64 qe, .int .i64 qf, .int .i64 qh] 23)).alloc (.cells (oc x) 62)).alloc (.cells (oc y) 62)) (w.heap.size + 2) 62 (oc y) ∧ Below w.heap.size w (((w.alloc (.cells #[.int .i64 qa, .int .i64 qb, .int .i64 qc, .int .i64 qd, .int .i64 qe, .int .i64 qf, .int .i64 qh] 23)).alloc (.cells (oc x) 62)).alloc (.cells (oc y) 62)) ∧ (((w.alloc (.cells #[.int .i64 qa, .int .i64 qb, .int .i64 qc, .int .i64 qd, .int .i64 qe, .int .i64 qf, .int .i64 qh] 23)).alloc (.cells (oc x) 62)).alloc (.cells (oc y) 62)).heap.size = w.heap.size + 3 := by
  have k := Blk.new (w.alloc (.cells #[.int .i64 qa, .int .i64 qb, .int .i64 qc, .int .i64 qd, .int .i64 qe, .int .i64 qf, .int .i64 qh] 23)) 62 (oc x)
  have k2 := Blk.new ((w.alloc (.cells #[.int .i64 qa, .int .i64 qb, .int .i64 qc, .int .i64 qd, .int .i64 qe, .int .i64 qf, .int .i64 qh] 23)).alloc (.cells (oc x) 62)) 62 (oc y)
  simp only [World.size_alloc] at k k2
  exact ⟨((Blk.new w _ _).alloc _).alloc _, k.alloc _, k2, (((Below.refl _ _).alloc (Nat.le_refl _) _).alloc (by simp) _).alloc (by simp; omega) _, by simp⟩
/-- a quota's box read -/
theorem qcells {w : World} {g : Nat} {qa qb qc qd qe qf qh : Int} (h : Blk w g 23 #[.int .i64 qa, .int .i64 qb, .int .i64 qc, .int .i64 qd, .int .i64 qe, .int .i64 qf, .int .i64 qh]) : w.cell? ⟨g, 0, none⟩ = some (.int .i64 qa) ∧ w.cell? ⟨g, 1, none⟩ = some (.int .i64 qb) ∧ w.cell? ⟨g, 2, none⟩ = some (.int .i64 qc) ∧ w.cell? ⟨g, 3, none⟩ = some (.int .i64 qd) ∧ w.cell? ⟨g, 4, none⟩ = some (.int .i64 qe) ∧ w.cell? ⟨g, 5, none⟩ = some (.int .i64 qf) ∧ w.cell? ⟨g, 6, none⟩ = some (.int .i64 qh) :=
  ⟨h.cell 0, h.cell 1, h.cell 2, h.cell 3, h.cell 4, h.cell 5, h.cell 6⟩
theorem ocells {w : World} {g : Nat} {x : O} (h : Blk w g 62 (oc x)) : w.cell? ⟨g, 0, none⟩ = some (.int .i64 x.k) ∧ w.cell? ⟨g, 1, none⟩ = some (.string x.s) ∧ w.cell? ⟨g, 2, none⟩ = some (.string x.v) ∧ w.cell? ⟨g, 3, none⟩ = some (.string x.t) :=
  ⟨h.cell 0, h.cell 1, h.cell 2, h.cell 3⟩

set_option maxRecDepth 100000 in
set_option maxHeartbeats 4000000 in
theorem commutes_no (q : Qt) (bs : List BL) (A : Option Addr) (c : Nat) (x y : O) (w : World) (hk : ¬ q.ok) :
    Calls Try.prog 11 #[.agg #[.int .i64 q.a, .int .i64 q.b, .int .i64 q.c, .int .i64 q.d, .int .i64 q.e, .int .i64 q.f, .int .i64 q.h], .slice A bs.length c, .agg #[.int .i64 x.k, .string x.s, .string x.v, .string x.t], .agg #[.int .i64 y.k, .string y.s, .string y.v, .string y.t]] w fun e w' => e = .returned (.bool true) ∧ Below w.heap.size w w' := by
  have hm := fun w' => made_no q bs A c w' hk
  obtain ⟨qa, qb, qc, qd, qe, qf, qh⟩ := q
  have hr := fun w' => quotas.refRight_no qa qb qc qd qe qf qh w' hk
  obtain ⟨kq, kx, ky, b0, z0⟩ := boxesQOO qa qb qc qd qe qf qh x y w
  simp only [] at hm ⊢
  go_enter Try.func11, Try.ntmps11
  go_wp2_with fail
  refine (hm _).mono ?_
  rintro e1 w1 ⟨rfl, hb1⟩
  have b1 := b0.trans (hb1.mono b0.size)
  have kq1 := kq.below hb1 kq.lt
  obtain ⟨c0, c1, c2, c3, c4, c5, c6⟩ := qcells kq1
  go_wp2_with fail
  refine (hm _).mono ?_
  rintro e2 w2 ⟨rfl, hb2⟩
  have b2 := b1.trans (hb2.mono b1.size)
  have kq2 := kq1.below hb2 kq1.lt
  obtain ⟨d0, d1, d2, d3, d4, d5, d6⟩ := qcells kq2
  go_wp2_with fail
  refine (hr _).mono ?_
  rintro e3 w3 ⟨rfl, hb3⟩
  have b3 := b2.trans (hb3.mono b2.size)
  go_wp2_with fail
  go_ret
  exact ⟨rfl, b3⟩

set_option maxRecDepth 100000 in
set_option maxHeartbeats 4000000 in
theorem commutes_ok (q : Qt) (bs : List BL) (A : Option Addr) (c : Nat) (x y : O) (w : World) (hk : q.ok) (hB : Bs w w.heap.size bs A c) (hx : x.fits) (hy : y.fits) :
    Calls Try.prog 11 #[.agg #[.int .i64 q.a, .int .i64 q.b, .int .i64 q.c, .int .i64 q.d, .int .i64 q.e, .int .i64 q.f, .int .i64 q.h], .slice A bs.length c, .agg #[.int .i64 x.k, .string x.s, .string x.v, .string x.t], .agg #[.int .i64 y.k, .string y.s, .string y.v, .string y.t]] w fun e w' => e = .returned (.bool true) ∧ Below w.heap.size w w' := by
  have hm := fun w' (h : Bs w' w'.heap.size bs A c) => made_ok q bs A c w' hk h
  have hI := made_inv hk bs
  generalize madeP q bs = b at hm hI
  have hcom := fun hxy ha hb hc hd => play_commute hk hI (x := x) (y := y) hxy ha hb hc hd
  have i1 := hI.play hk [x]
  have i3 := hI.play hk [y]
  have i2 := i1.play hk [y]
  have i4 := i3.play hk [x]
  have p1 := fun (W : World) (P1 m1 P2 m2 : Nat) (b2 : Bk) (wr : World) (h : Two W q P1 m1 b P2 m2 b2 wr) => h.play_one hk hI (by omega) x hx
  have p3 := fun (W : World) (P1 m1 P2 m2 : Nat) (b2 : Bk) (wr : World) (h : Two W q P1 m1 b P2 m2 b2 wr) => h.play_one hk hI (by omega) y hy
  have p2 := fun (W : World) (P1 m1 P2 m2 : Nat) (b2 : Bk) (wr : World) (h : Two W q P1 m1 (playP q b [x]).1 P2 m2 b2 wr) => h.play_one hk i1 (by omega) y hy
  have p4 := fun (W : World) (P1 m1 P2 m2 : Nat) (b2 : Bk) (wr : World) (h : Two W q P1 m1 (playP q b [y]).1 P2 m2 b2 wr) => h.play_one hk i3 (by omega) x hx
  generalize playP q (playP q b [x]).1 [y] = r2 at *
  generalize playP q (playP q b [y]).1 [x] = r4 at *
  generalize playP q b [x] = r1 at *
  generalize playP q b [y] = r3 at *
  have all := fun (W : World) (P1 m1 : Nat) (wr : World) (h : MdHead W q P1 m1 r2.1 wr) => h.all hk i2
  have gone := fun (W : World) (P1 m1 : Nat) (wr : World) (h : MdHead W q P1 m1 r2.1 wr) => h.gone hk i2 (by omega)
  have hr := fun w' => quotas.refRight_ok q.a q.b q.c q.d q.e q.f q.h w' hk
  obtain ⟨kq, kx, ky, b0, z0⟩ := boxesQOO q.a q.b q.c q.d q.e q.f q.h x y w
  go_enter Try.func11, Try.ntmps11
  go_wp2_with fail
  generalize (((w.alloc (.cells #[.int .i64 q.a, .int .i64 q.b, .int .i64 q.c, .int .i64 q.d, .int .i64 q.e, .int .i64 q.f, .int .i64 q.h] 23)).alloc (.cells (oc x) 62)).alloc (.cells (oc y) 62)) = W at *
  refine (hm _ (hB.at_world b0)).mono ?_
  rintro e1 w1 ⟨P1, m1, rfl, M1⟩
  have kq1 := kq.below M1.1 kq.lt
  obtain ⟨c0, c1, c2, c3, c4, c5, c6⟩ := qcells kq1
  go_wp2_with fail
  refine (hm _ (hB.at_world (b0.trans (M1.1.mono b0.size)))).mono ?_
  rintro e2 w2 ⟨P2, m2, rfl, M2⟩
  have T2 := Two.of_made M1 M2
  have kq2 := kq.below T2.1 kq.lt
  obtain ⟨d0, d1, d2, d3, d4, d5, d6⟩ := qcells kq2
  clear M1 M2 hm
  go_wp2_with fail
  refine (hr _).mono ?_
  rintro e3 w3 ⟨rfl, hb3⟩
  have T3 := T2.below hb3
  have kx3 := kx.below T3.1 kx.lt
  have ky3 := ky.below T3.1 ky.lt
  obtain ⟨x03, x13, x23, x33⟩ := ocells kx3
  obtain ⟨y03, y13, y23, y33⟩ := ocells ky3
  clear T2 hb3 hr
  by_cases hxy : x.s = y.s
  · have g1 : (x.s.toList == y.s.toList) = true := by rw [hxy]; exact beq_self_eq_true _
    clear hxy
    go_wp2_with fail
    go_ret
    exact ⟨rfl, b0.trans (T3.1.mono b0.size)⟩
  have g1 : (x.s.toList == y.s.toList) = false := by
    rw [beq_eq_false_iff_ne, Lib.toList_data, Lib.toList_data]
    exact fun e => hxy (bn_ext e)
  replace hcom := hcom hxy
  clear hxy
  go_wp2_with fail
  refine (p1 _ _ _ _ _ _ _ T3).mono ?_
  rintro e4 w4 ⟨rfl, T4, _⟩
  have kx4 := kx.below T4.1 kx.lt
  have ky4 := ky.below T4.1 ky.lt
  obtain ⟨x04, x14, x24, x34⟩ := ocells kx4
  obtain ⟨y04, y14, y24, y34⟩ := ocells ky4
  go_wp2_with fail
  refine (p2 _ _ _ _ _ _ _ T4).mono ?_
  rintro e5 w5 ⟨rfl, T5, _⟩
  have kx5 := kx.below T5.1 kx.lt
  have ky5 := ky.below T5.1 ky.lt
  obtain ⟨x05, x15, x25, x35⟩ := ocells kx5
  obtain ⟨y05, y15, y25, y35⟩ := ocells ky5
  go_wp2_with fail
  refine (p3 _ _ _ _ _ _ _ T5.symm).mono ?_
  rintro e6 w6 ⟨rfl, T6, _⟩
  have kx6 := kx.below T6.1 kx.lt
  have ky6 := ky.below T6.1 ky.lt
  obtain ⟨x06, x16, x26, x36⟩ := ocells kx6
  obtain ⟨y06, y16, y26, y36⟩ := ocells ky6
  go_wp2_with fail
  refine (p4 _ _ _ _ _ _ _ T6).mono ?_
  rintro e7 w7 ⟨rfl, T7, _⟩
  have kx7 := kx.below T7.1 kx.lt
  have ky7 := ky.below T7.1 ky.lt
  obtain ⟨x07, x17, x27, x37⟩ := ocells kx7
  obtain ⟨y07, y17, y27, y37⟩ := ocells ky7
  have bW := b0.trans (T7.1.mono b0.size)
  clear T3 T4 T5 T6 kx3 kx4 kx5 kx6 ky3 ky4 ky5 ky6 p1 p2 p3 p4 kq kx ky kq1 kq2
  by_cases h1 : r1.2.1 = 0
  rotate_left
  · have f1 := ne_yes h1
    clear hcom
    go_wp2_with fail
    go_ret
    exact ⟨rfl, bW⟩
  by_cases h2 : r2.2.1 = 0
  rotate_left
  · have f1 := ne_no h1
    have f2 := ne_yes h2
    clear hcom
    go_wp2_with fail
    go_ret
    exact ⟨rfl, bW⟩
  by_cases h3 : r3.2.1 = 0
  rotate_left
  · have f1 := ne_no h1
    have f2 := ne_no h2
    have f3 := ne_yes h3
    clear hcom
    go_wp2_with fail
    go_ret
    exact ⟨rfl, bW⟩
  by_cases h4 : r4.2.1 = 0
  rotate_left
  · have f1 := ne_no h1
    have f2 := ne_no h2
    have f3 := ne_no h3
    have f4 := ne_yes h4
    clear hcom
    go_wp2_with fail
    go_ret
    exact ⟨rfl, bW⟩
  have hcm := hcom h1 h2 h3 h4
  have f1 := ne_no h1
  have f2 := ne_no h2
  have f3 := ne_no h3
  have f4 := ne_no h4
  clear hcom h1 h2 h3 h4
  have M1 := T7.symm.md
  have M2 := T7.md
  rw [← hcm] at M2
  clear T7 hcm
  go_wp2_with fail
  refine (all _ _ _ _ M1).mono ?_
  rintro e8 w8 ⟨hb8, v8, le8, rfl, hle8, hO8⟩
  have M18 := M1.below hb8
  have M28 := M2.below hb8
  go_wp2_with fail
  refine (all _ _ _ _ M28).mono ?_
  rintro e9 w9 ⟨hb9, v9, le9, rfl, hle9, hO9⟩
  have M19 := M18.below hb9
  have M29 := M28.below hb9
  obtain ⟨A8, c8, rfl, E8⟩ := (ownEF_below hO8 hb9).es
  obtain ⟨A9, c9, rfl, E9⟩ := hO9.es
  have hlk := likeAll_any le8 le9 A8 A9 c8 c9 w9 E8.es E9.es
  rw [hle8, hle9, decide_eq_true rfl] at hlk
  clear M1 M2 M18 M28 E8 E9 hO8 hO9
  go_wp2_with fail
  refine hlk.mono ?_
  rintro e10 w10 ⟨rfl, hb10⟩
  have M110 := M19.below hb10
  have M210 := M29.below hb10
  clear hlk
  go_wp2_with fail
  refine (gone _ _ _ _ M110).mono ?_
  rintro e11 w11 ⟨v11, rfl, hb11, hT11⟩
  have M211 := M210.below hb11
  go_wp2_with fail
  refine (gone _ _ _ _ M211).mono ?_
  rintro e12 w12 ⟨v12, rfl, hb12, hT12⟩
  have hst := sameTexts_any v11 v12 _ _ _ w12 (hT11.below hb12) hT12
  go_wp2_with fail
  refine hst.mono ?_
  rintro e13 w13 ⟨rfl, hb13⟩
  go_wp2_with fail
  go_ret
  have z := M211.1.size
  exact ⟨rfl, (b0.trans (M211.1.mono b0.size)).trans ((hb12.mono (by have := b0.size; omega)).trans (hb13.mono (by have := b0.size; have := hb12.size; omega)))⟩

theorem law_commutes (q : Qt) (bs : List BL) (A : Option Addr) (c : Nat) (x y : O) (w : World) (hB : Bs w w.heap.size bs A c) (hx : x.fits) (hy : y.fits) :
    Calls Try.prog 11 #[.agg #[.int .i64 q.a, .int .i64 q.b, .int .i64 q.c, .int .i64 q.d, .int .i64 q.e, .int .i64 q.f, .int .i64 q.h], .slice A bs.length c, .agg #[.int .i64 x.k, .string x.s, .string x.v, .string x.t], .agg #[.int .i64 y.k, .string y.s, .string y.v, .string y.t]] w fun e w' => e = .returned (.bool true) ∧ Below w.heap.size w w' := by
  by_cases hk : q.ok
  · exact commutes_ok q bs A c x y w hk hB hx hy
  · exact commutes_no q bs A c x y w hk

end Go.Proofs.Ytnhfpbllgjhcdaa.books
