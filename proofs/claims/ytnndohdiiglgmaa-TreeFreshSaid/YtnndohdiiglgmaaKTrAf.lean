/- climber.up. -/
import Derived.Test.YtnndohdiiglgmaaKTrAd
import Derived.Test.YtnndohdiiglgmaaKMix


namespace Go.Proofs.Ytnndohdiiglgmaa.trees
set_option linter.unusedVariables false
set_option linter.unusedSimpArgs false
open Go.RowKit Go.Shelf Go.Proofs.Ytnndohdiiglgmaa.base Go.Proofs.Ytnndohdiiglgmaa.vers Go.Proofs.Ytnndohdiiglgmaa.nodes Go.Proofs.Ytnndohdiiglgmaa.quotas
attribute [local go_sem] Oper.semAt_some

/-- many blocks made one behind the other -/
theorem boxes6 (w : World) (t0 t1 t2 t3 t4 t5 : TypeId) (c0 c1 c2 c3 c4 c5 : Array Value) (W : World) (e : (((((w.alloc (.cells c0 t0)).alloc (.cells c1 t1)).alloc (.cells c2 t2)).alloc (.cells c3 t3)).alloc (.cells c4 t4)).alloc (.cells c5 t5) = W) :
    Below w.heap.size w W ∧ W.heap.size = w.heap.size + 1 + 1 + 1 + 1 + 1 + 1 ∧ Blk W w.heap.size t0 c0 ∧ Blk W (w.heap.size + 1) t1 c1 ∧ Blk W (w.heap.size + 1 + 1) t2 c2 ∧ Blk W (w.heap.size + 1 + 1 + 1) t3 c3 ∧ Blk W (w.heap.size + 1 + 1 + 1 + 1) t4 c4 ∧ Blk W (w.heap.size + 1 + 1 + 1 + 1 + 1) t5 c5 := by
  subst e
  refine ⟨(((((((Below.refl _ w).alloc (Nat.le_refl _) _).alloc (by simp) _).alloc (by simp; omega) _).alloc (by simp; omega) _).alloc (by simp; omega) _).alloc (by simp; omega) _), by simp, ?_, ?_, ?_, ?_, ?_, ?_⟩
  · exact (((((Blk.new w t0 c0).alloc _).alloc _).alloc _).alloc _).alloc _
  · have := ((((Blk.new (w.alloc (.cells c0 t0)) t1 c1).alloc (.cells c2 t2)).alloc (.cells c3 t3)).alloc (.cells c4 t4)).alloc (.cells c5 t5)
    simpa only [World.size_alloc] using this
  · have := (((Blk.new ((w.alloc (.cells c0 t0)).alloc (.cells c1 t1)) t2 c2).alloc (.cells c3 t3)).alloc (.cells c4 t4)).alloc (.cells c5 t5)
    simpa only [World.size_alloc] using this
  · have := ((Blk.new (((w.alloc (.cells c0 t0)).alloc (.cells c1 t1)).alloc (.cells c2 t2)) t3 c3).alloc (.cells c4 t4)).alloc (.cells c5 t5)
    simpa only [World.size_alloc] using this
  · have := (Blk.new ((((w.alloc (.cells c0 t0)).alloc (.cells c1 t1)).alloc (.cells c2 t2)).alloc (.cells c3 t3)) t4 c4).alloc (.cells c5 t5)
    simpa only [World.size_alloc] using this
  · have := Blk.new (((((w.alloc (.cells c0 t0)).alloc (.cells c1 t1)).alloc (.cells c2 t2)).alloc (.cells c3 t3)).alloc (.cells c4 t4)) t5 c5
    simpa only [World.size_alloc] using this
theorem over_any (s : St) (kids : List K) (R : Option Addr) (r : Nat) (F : Nat → Prop) (w : World) (hs : KsF w F s.n.ks s.n.Q s.n.m) (hR : KsF w F kids R r) (hF : ∀ g, F g → g < w.heap.size) (h1 : s.na ≤ s.at_) (h2 : s.at_ + 1 + s.nb ≤ s.n.ks.length) (hl : (s.n.ks.length + kids.length) * 48 ≤ 140737488355328) :
    Calls Try.prog 88 #[s.v, .slice R kids.length r] w (OPost w s.n.lf s.n.A s.n.es.length s.n.c (overK s.n.ks s.at_ s.na s.nb kids)) := by
  obtain ⟨⟨lf, es, ks, A, c, Q, m⟩, at_, Aa, na, ca, Ab, nb, cb⟩ := s
  obtain ⟨b, off, rfl⟩ : ∃ b off, Q = some ⟨b, off, none⟩ := by
    have h3 : 0 < ks.length := by simp only at h2; omega
    obtain ⟨b, off, e, _⟩ := hs.2.2.2.1 0 _ (List.getElem?_eq_getElem (by rw [cellsK_len]; omega))
    exact ⟨b, off, e⟩
  rcases Nat.lt_or_ge (at_ + 1 + nb) m with hm | hm
  · exact over_mid lf A es.length c b off m ks kids at_ na nb Aa Ab ca cb R r F w hs hR hF h1 h2 hm hl
  · have := hs.1
    simp only at h2 this
    obtain rfl : m = ks.length := by omega
    exact over_last lf A es.length c b off ks kids at_ na nb Aa Ab ca cb R r F w hs hR hF h1 h2 (by omega) hl
set_option maxRecDepth 100000 in
set_option maxHeartbeats 2000000 in
theorem put1_any (s : St) (y : N) (F : Nat → Prop) (w : World) (hy : NsF w F y) (hF : ∀ g, F g → g < w.heap.size) :
    Calls Try.prog 59 #[s.v, y.val] w (NPost w F (splitP y.p)) := by
  have b0 : Below w.heap.size w ((w.alloc (.cells s.cells.toArray 134)).alloc (.cells #[.bool y.lf, .slice y.A y.es.length y.c, .slice y.Q y.ks.length y.m] 60)) := ((Below.refl _ _).alloc (Nat.le_refl _) _).alloc (by simp) _
  have k1 := Blk.new (w.alloc (.cells s.cells.toArray 134)) 60 #[.bool y.lf, .slice y.A y.es.length y.c, .slice y.Q y.ks.length y.m]
  rw [World.size_alloc] at k1
  have e0 := k1.cell 0
  have e1 := k1.cell 1
  have e2 := k1.cell 2
  simp only [List.getElem?_toArray, List.getElem?_cons_zero, List.getElem?_cons_succ] at e0 e1 e2
  have hsp := split_any y F _ (hy.agree (Agree.of_below b0 hF)) (fun g hg => by have := hF g hg; simp; omega)
  simp only [St.cells] at b0 e0 e1 e2 hsp
  obtain ⟨lf, es, ks, A, c, Q, m⟩ := y
  go_enter Try.func59, Try.ntmps59
  go_wp2_with fail
  refine hsp.mono ?_
  rintro e w2 hN
  have hN := npost_from b0 hF hN
  obtain ⟨l, A9, c9, rfl, h1, h2, h3⟩ := hN
  go_wp2_with fail
  go_ret
  exact ⟨l, A9, c9, rfl, h1, h2, h3⟩

set_option maxRecDepth 100000 in
set_option maxHeartbeats 8000000 in
theorem up_gen {α : Type} (f : α → St) (ss : List α) (z : α) (A : Option Addr) (c : Nat) (x0 : N) (h : Nat) (S : Nat → Prop) (ns : List P3) (F : Nat → Prop) (w : World) (hh : Hp w h S ns) (hS : StF w F (ss.map f) A c) (hx : NsF w F x0) (hF : ∀ g, F g → g < w.heap.size ∧ ¬ S g)
    (hst : 0 < ss.length → ∀ a, NsF w F (f a).n ∧ (f a).na = 0 ∧ (f a).nb = 0 ∧ (f a).at_ < (f a).n.ks.length ∧ (f a).n.ks.length ≤ 1000) (hn : ns.length + 2 * ss.length ≤ 20000) (hxQ : ∀ a, x0.Q = some a → a.block < w.heap.size) :
    Calls Try.prog 51 #[clim h, .slice A ss.length c, x0.val, (.func (.func 59) #[] #[])] w (UpPost w h S (upP madePut (ns, x0.p) ((back ss z ss.length).map fun p => (p.1, f p.2)))) := by
  refine (callsIn_wide (n := 4)).1 ?_
  refine callsIn_of_wp_marks Try.func51 rfl trivial ?_ rfl
  simp only [Try.ntmps51, List.size_toArray, List.length_cons, List.length_nil, Nat.reduceAdd, Nat.reduceSub, Array.replicate_succ, Array.replicate_zero, List.push_toArray, List.append_toArray, List.nil_append, List.cons_append]
  gi_wp2_with (refine ⟨trivial, ?_⟩; gi_at_call 85; refine (backS_in Fence.wide 3 trivial rfl _ _ _ _).mono ?_; rintro e w' ⟨rfl, rfl⟩)
  obtain ⟨W1, hW1⟩ : ∃ W1, ((((((w.alloc (.cells #[.iface 23 (.pointer (some ⟨h, 0, none⟩))] 111)).alloc (.cells #[.bool x0.lf, .slice x0.A x0.es.length x0.c, .slice x0.Q x0.ks.length x0.m] 60)).alloc (.cells #[(.func (.func 59) #[] #[])] 121)).alloc (.cells #[.bool false, .slice none 0 0, .slice none 0 0] 60)).alloc (.cells #[.int .i64 0] 28)).alloc (.cells #[.slice A ss.length c] 113)) = W1 := ⟨_, rfl⟩
  rw [hW1]
  obtain ⟨hB0, hsz, k0, k1, k2, k3, k4, k5⟩ := boxes6 _ _ _ _ _ _ _ _ _ _ _ _ _ _ hW1
  clear hW1
  have hG : ∀ g, (F g ∨ g = w.heap.size + 1 + 1 + 1 + 1 + 1) → g < W1.heap.size := fun g hg => by
    rcases hg with hg | hg
    · have := (hF g hg).1; omega
    · omega
  have hFl : ∀ g, F g → g < w.heap.size := fun g hg => (hF g hg).1
  have hS1 : StF W1 (fun g => F g ∨ g = w.heap.size + 1 + 1 + 1 + 1 + 1) (ss.map f) A c := ⟨hS.1, hS.2.1, hS.2.2.1, (hS.2.2.2.agree (Agree.of_below hB0 hFl)).mono fun g hg => .inl hg⟩
  have hSl := hh.lt
  have hI0 : UpI w h S (.func (.func 59) #[] #[]) (upP madePut (ns, x0.p) ([].map fun p : Nat × α => (p.1, f p.2))) W1 :=
    ⟨fun g => S g ∧ isC W1 g, x0, (hh.below hB0).cells, rfl, fun g hg => ⟨.inl hg.1, hg.2⟩, k1, (((hx.agree (Agree.of_below hB0 hFl)).cells).mono fun g hg => ⟨⟨by have := hFl g hg.1; omega, fun h0 => (hF g hg.1).2 h0.1, by have := hFl g hg.1; omega⟩, hg.2⟩), k0, k2, k3, k4, Keep.of_below hB0, by omega, fun a e => by have := hxQ a e; omega⟩
  refine wpIn_rangeFunc_ownH (F := Fence.wide) (n := 4) rfl (by omega) (gf := 107) (lb := #[.pointer (some ⟨w.heap.size + 1 + 1 + 1 + 1 + 1, 0, none⟩)]) rfl trivial (enters_of Try.func107 (by kernel_rfl) rfl)
    (backS_stops Fence.wide 3 trivial rfl (by omega) (w.heap.size + 1 + 1 + 1 + 1 + 1) (fun g => F g ∨ g = w.heap.size + 1 + 1 + 1 + 1 + 1) f ss z A c W1 (.inr rfl) hG (k5.cell 0) hS1) agree_t (agree_b hG) (Below.refl _ _) (fun _ => rfl)
    (fun pre W => UpI w h S (.func (.func 59) #[] #[]) (upP madePut (ns, x0.p) (pre.map fun p : Nat × α => (p.1, f p.2))) W ∧ Blk W (w.heap.size + 1 + 1 + 1 + 1 + 1) 113 #[.slice A ss.length c])
    (fun _ _ _ => False)
    (OwnFrom.and (UpI.own (fun pre : List (Nat × α) => upP madePut (ns, x0.p) (pre.map fun p : Nat × α => (p.1, f p.2))) _ (by omega)) (Own.from (fun s' X Y row hs hg hr => blk_own _ _ (fun _ : Unit => _) () X Y row hs hg hr) _))
    (fun cc s' X Y row hs hg hr => hs)
    ⟨hI0, k5⟩
    (fun x a' W => ∃ (Bx : Nat) (q : Option Addr) (n9 c9 : Nat), w.heap.size + 1 + 1 + 1 + 1 + 1 < Bx ∧ Blk W Bx 134 (f x.2).cells.toArray ∧ W.cell? ⟨w.heap.size + 1, 2, none⟩ = some (.slice q n9 c9) ∧ (∀ a, q = some a → a.block < Bx) ∧ a' = { tmps := #[clim h, .slice A ss.length c, x0.val, (.func (.func 59) #[] #[]), .pointer (some ⟨w.heap.size, 0, none⟩), undef, .pointer (some ⟨w.heap.size + 1, 0, none⟩), .pointer (some ⟨w.heap.size + 1 + 1, 0, none⟩), .pointer (some ⟨w.heap.size + 1 + 1 + 1, 0, none⟩), .pointer (some ⟨w.heap.size + 1 + 1 + 1 + 1, 0, none⟩), undef, .pointer (some ⟨Bx, 0, none⟩), undef, undef, .slice A ss.length c, .func (.func 107) #[] #[.pointer (some ⟨w.heap.size + 1 + 1 + 1 + 1 + 1, 0, none⟩)], .int .i64 (x.1 : Int), (f x.2).v, undef, undef, undef, undef, undef, undef, undef, undef, undef, undef, undef, undef, undef, undef, undef, undef, undef], defers := [] })
    (fun x a' _ X Y row hs hg hr => by obtain ⟨Bx, q, n9, c9, q1, q2, q3, q4, q5⟩ := hs; exact ⟨Bx, q, n9, c9, q1, blk_own Bx 134 (fun (_ : Unit) => _) () X Y row q2 hg (fun r e => (hr r e).2), cell_kept q3 hg (fun r e => (hr r e).2), q4, q5⟩)
    ?assign ?body ?done ?stop
  case assign =>
    rintro l pre x W K ⟨hI, k5'⟩ hK
    obtain ⟨S', y, i1, i2, i3, i4, i5, i6, i7, i8, i9, i10, i11, i12⟩ := id hI
    have hIW := (UpI.own (w := w) (h := h) (S := S) (fv := (.func (.func 59) #[] #[])) (fun pre : List (Nat × α) => upP madePut (ns, x0.p) (pre.map fun p : Nat × α => (p.1, f p.2))) w.heap.size (Nat.le_refl _)).alloc (.cells (f x.2).cells.toArray 134) hI
    have hq := (i4.alloc (.cells (f x.2).cells.toArray 134)).cell 2
    have hqb := i12
    simp only [List.getElem?_toArray, List.getElem?_cons_zero, List.getElem?_cons_succ] at hq
    unfold St.cells at hIW hq
    gi_wp2
    exact hK _ _ ((KeepsOthers.alloc _ _).from _) (Agree.of_below ((Below.refl _ W).alloc (Nat.le_refl _) _) (fun g hg => by have := hG g hg; omega)) ⟨hIW, k5'.alloc _⟩ ⟨W.heap.size, y.Q, _, _, by omega, Blk.new _ _ _, hq, hqb, rfl⟩
  case body =>
    rintro l pre x a' W hl ⟨r, hr⟩ ⟨hI, k5'⟩ ⟨Bx, q, n9, c9, hBx, bX, hq, hqb, rfl⟩ hlt
    have hlt0 : 0 < ss.length := Nat.lt_of_le_of_lt (Nat.zero_le _) hlt
    obtain ⟨hsn, hna, hnb, hat, hks⟩ := hst hlt0 x.2
    have hroom : (upP madePut (ns, x0.p) (pre.map fun p : Nat × α => (p.1, f p.2))).1.length + 2 ≤ 20000 := by
      have h1 := upP_len (ns := ns) (x := x0.p) (pre.map fun p : Nat × α => (p.1, f p.2))
      rw [List.length_map] at h1
      omega
    have hnext : ∀ W9, UpI w h S (.func (.func 59) #[] #[]) (stepP madePut (upP madePut (ns, x0.p) (pre.map fun p : Nat × α => (p.1, f p.2))) (f x.2)) W9 → UpI w h S (.func (.func 59) #[] #[]) (upP madePut (ns, x0.p) ((pre ++ [x]).map fun p : Nat × α => (p.1, f p.2))) W9 := fun W9 h9 => by
      rw [List.map_append, List.map_cons, List.map_nil, upP_snoc]
      exact h9
    generalize upP madePut (ns, x0.p) (pre.map fun p : Nat × α => (p.1, f p.2)) = st at hI hroom hnext
    have HN := vers.lay hnext
    clear hnext
    obtain ⟨S', y, i1, i2, i3, i4, i5, i6, i7, i8, i9, i10, i11, i12⟩ := hI
    have hSx : ¬ S' Bx := fun h0 => by
      rcases (i3 Bx h0).1 with h1 | ⟨_, a, e, h2⟩
      · have := hSl _ h1; omega
      · have e2 := i4.cell 2
        simp only [List.getElem?_toArray, List.getElem?_cons_zero, List.getElem?_cons_succ] at e2
        rw [e2] at hq
        injection hq with hq
        injection hq with hq _ _
        have := hqb a (by rw [← hq]; exact e)
        omega
    have hSb : ∀ g, w.heap.size ≤ g → g < w.heap.size + 6 → ¬ S' g := fun g g1 g2 h0 => by
      rcases (i3 g h0).1 with h1 | ⟨h1, _⟩
      · have := hSl _ h1; omega
      · omega
    generalize f x.2 = s at hsn hna hnb hat hks bX HN ⊢
    have HA := vers.lay hna
    have HB := vers.lay hnb
    clear hna hnb hq hqb
    have lX := bX.lt
    have lW : w.heap.size + 1 + 1 < W.heap.size := by omega
    have lC : w.heap.size < W.heap.size := by omega
    have c0 := i6.cell 0
    have c7 := i7.cell 0
    have gy0 := i4.cell 0
    have gy1 := i4.cell 1
    have gy2 := i4.cell 2
    have x0' := bX.cell 0
    have x1' := bX.cell 1
    have x2' := bX.cell 2
    have x3' := bX.cell 3
    have x4' := bX.cell 4
    have x5' := bX.cell 5
    simp only [St.cells, List.getElem?_toArray, List.getElem?_cons_zero, List.getElem?_cons_succ] at c0 c7 gy0 gy1 gy2 x0' x1' x2' x3' x4' x5'
    have hFy : ∀ g, ((g < W.heap.size ∧ ¬ S' g ∧ (g < w.heap.size ∨ w.heap.size + 6 ≤ g)) ∧ isC W g) → g < W.heap.size := fun g hg => hg.1.1
    have hput := fun w1 (hb : Below W.heap.size W w1) => put1_any s y _ w1 (i5.agree (Agree.of_below hb hFy)) (fun g hg => Nat.lt_of_lt_of_le (hFy g hg) hb.size)
    have hll : ∀ l1 : List N, l1.map N.p = splitP y.p → l1.length ≤ 2 := fun l1 e => by
      have := congrArg List.length e
      rw [List.length_map] at this
      have := splitP_len y.p
      omega
    have hlay := fun w2 (hb : Below W.heap.size W w2) (l1 : List N) A1 c1 (e1 : l1.map N.p = splitP y.p) (h1 : LF w2 (fun g => ((g < W.heap.size ∧ ¬ S' g ∧ (g < w.heap.size ∨ w.heap.size + 6 ≤ g)) ∧ isC W g) ∨ (W.heap.size ≤ g ∧ g < w2.heap.size)) l1 A1 c1) =>
      lay_ok l1 A1 c1 h S' st.1 w2 (i1.agree (Agree.of_below hb i1.lt) hb.size) _ h1 (fun g hg => by
        have := hb.size
        rcases hg with hg | hg
        · exact ⟨by omega, hg.1.2.1⟩
        · exact ⟨hg.2, fun h0 => by have := i1.lt g h0; omega⟩) (by have := hll l1 e1; omega)
    have hmx : Try.prog.follows .mixedOrders = true := by kernel_rfl
    have hd : 1 ≤ 4 - 1 - 1 := by omega
    have HP := vers.lay hput
    have HL := vers.lay hlay
    have HLL := vers.lay hll
    have HFY := vers.lay hFy
    clear hput hlay hll hFy
    have hn0 := hSb w.heap.size (by omega) (by omega)
    have hn1 := hSb (w.heap.size + 1) (by omega) (by omega)
    have hn2 := hSb (w.heap.size + 1 + 1) (by omega) (by omega)
    have l1' : w.heap.size + 1 < W.heap.size := by omega
    obtain ⟨ylf, yes, yks, yA, yc, yQ, ym⟩ := y
    gi_wp2
    have hbd : Below W.heap.size W W.drew := (Below.refl _ _).drew
    have hS0 : Keep S' W W.drew := Keep.of_below hbd
    refine mix.region_in l _ (fun w' => Keep S' W w') (fun j => j == 10) hmx (by kernel_rfl) (by rintro ⟨a, w, h⟩; exact h) ?_
    generalize W.drew = Wd at hbd hS0 ⊢
    refine mix.D_take (i := 0) (v := ?_) rfl (by kernel_rfl) (by kernel_rfl) (fun _ _ _ h => h) (Or.inl ⟨by rfl, ?_⟩) hS0 ?_
    rotate_left
    · intro w' hSw
      have y0 := (hSw.cell (p := ⟨w.heap.size, 0, none⟩) lC hn0).trans c0
      have y1 := (hSw.cell (p := ⟨w.heap.size + 1 + 1, 0, none⟩) lW hn2).trans c7
      have y2 := (hSw.cell (p := ⟨w.heap.size + 1, 0, none⟩) l1' hn1).trans gy0
      have y3 := (hSw.cell (p := ⟨w.heap.size + 1, 1, none⟩) l1' hn1).trans gy1
      have y4 := (hSw.cell (p := ⟨w.heap.size + 1, 2, none⟩) l1' hn1).trans gy2
      have y5 := (hSw.cell (p := ⟨Bx, 0, none⟩) lX hSx).trans x0'
      have y6 := (hSw.cell (p := ⟨Bx, 1, none⟩) lX hSx).trans x1'
      have y7 := (hSw.cell (p := ⟨Bx, 2, none⟩) lX hSx).trans x2'
      have y8 := (hSw.cell (p := ⟨Bx, 3, none⟩) lX hSx).trans x3'
      have y9 := (hSw.cell (p := ⟨Bx, 4, none⟩) lX hSx).trans x4'
      have y10 := (hSw.cell (p := ⟨Bx, 5, none⟩) lX hSx).trans x5'
      try simp only [List.getElem_toArray, List.getElem_cons_zero, List.getElem_cons_succ]
      go_simp
      exact rfl
    try simp only [Act.put, List.setIfInBounds_toArray, List.set_cons_zero, List.set_cons_succ, List.getElem_toArray, List.getElem_cons_zero, List.getElem_cons_succ]
    refine mix.D_take (i := 1) (v := ?_) rfl (by kernel_rfl) (by kernel_rfl) (fun _ _ _ h => h) (Or.inl ⟨by rfl, ?_⟩) hS0 ?_
    rotate_left
    · intro w' hSw
      have y0 := (hSw.cell (p := ⟨w.heap.size, 0, none⟩) lC hn0).trans c0
      have y1 := (hSw.cell (p := ⟨w.heap.size + 1 + 1, 0, none⟩) lW hn2).trans c7
      have y2 := (hSw.cell (p := ⟨w.heap.size + 1, 0, none⟩) l1' hn1).trans gy0
      have y3 := (hSw.cell (p := ⟨w.heap.size + 1, 1, none⟩) l1' hn1).trans gy1
      have y4 := (hSw.cell (p := ⟨w.heap.size + 1, 2, none⟩) l1' hn1).trans gy2
      have y5 := (hSw.cell (p := ⟨Bx, 0, none⟩) lX hSx).trans x0'
      have y6 := (hSw.cell (p := ⟨Bx, 1, none⟩) lX hSx).trans x1'
      have y7 := (hSw.cell (p := ⟨Bx, 2, none⟩) lX hSx).trans x2'
      have y8 := (hSw.cell (p := ⟨Bx, 3, none⟩) lX hSx).trans x3'
      have y9 := (hSw.cell (p := ⟨Bx, 4, none⟩) lX hSx).trans x4'
      have y10 := (hSw.cell (p := ⟨Bx, 5, none⟩) lX hSx).trans x5'
      try simp only [List.getElem_toArray, List.getElem_cons_zero, List.getElem_cons_succ]
      go_simp
      exact rfl
    try simp only [Act.put, List.setIfInBounds_toArray, List.set_cons_zero, List.set_cons_succ, List.getElem_toArray, List.getElem_cons_zero, List.getElem_cons_succ]
    refine mix.D_take (i := 2) (v := ?_) rfl (by kernel_rfl) (by kernel_rfl) (fun _ _ _ h => h) (Or.inl ⟨by rfl, ?_⟩) hS0 ?_
    rotate_left
    · intro w' hSw
      have y0 := (hSw.cell (p := ⟨w.heap.size, 0, none⟩) lC hn0).trans c0
      have y1 := (hSw.cell (p := ⟨w.heap.size + 1 + 1, 0, none⟩) lW hn2).trans c7
      have y2 := (hSw.cell (p := ⟨w.heap.size + 1, 0, none⟩) l1' hn1).trans gy0
      have y3 := (hSw.cell (p := ⟨w.heap.size + 1, 1, none⟩) l1' hn1).trans gy1
      have y4 := (hSw.cell (p := ⟨w.heap.size + 1, 2, none⟩) l1' hn1).trans gy2
      have y5 := (hSw.cell (p := ⟨Bx, 0, none⟩) lX hSx).trans x0'
      have y6 := (hSw.cell (p := ⟨Bx, 1, none⟩) lX hSx).trans x1'
      have y7 := (hSw.cell (p := ⟨Bx, 2, none⟩) lX hSx).trans x2'
      have y8 := (hSw.cell (p := ⟨Bx, 3, none⟩) lX hSx).trans x3'
      have y9 := (hSw.cell (p := ⟨Bx, 4, none⟩) lX hSx).trans x4'
      have y10 := (hSw.cell (p := ⟨Bx, 5, none⟩) lX hSx).trans x5'
      try simp only [List.getElem_toArray, List.getElem_cons_zero, List.getElem_cons_succ]
      go_simp
      exact rfl
    try simp only [Act.put, List.setIfInBounds_toArray, List.set_cons_zero, List.set_cons_succ, List.getElem_toArray, List.getElem_cons_zero, List.getElem_cons_succ]
    refine mix.D_take (i := 3) (v := ?_) rfl (by kernel_rfl) (by kernel_rfl) (fun _ _ _ h => h) (Or.inl ⟨by rfl, ?_⟩) hS0 ?_
    rotate_left
    · intro w' hSw
      have y0 := (hSw.cell (p := ⟨w.heap.size, 0, none⟩) lC hn0).trans c0
      have y1 := (hSw.cell (p := ⟨w.heap.size + 1 + 1, 0, none⟩) lW hn2).trans c7
      have y2 := (hSw.cell (p := ⟨w.heap.size + 1, 0, none⟩) l1' hn1).trans gy0
      have y3 := (hSw.cell (p := ⟨w.heap.size + 1, 1, none⟩) l1' hn1).trans gy1
      have y4 := (hSw.cell (p := ⟨w.heap.size + 1, 2, none⟩) l1' hn1).trans gy2
      have y5 := (hSw.cell (p := ⟨Bx, 0, none⟩) lX hSx).trans x0'
      have y6 := (hSw.cell (p := ⟨Bx, 1, none⟩) lX hSx).trans x1'
      have y7 := (hSw.cell (p := ⟨Bx, 2, none⟩) lX hSx).trans x2'
      have y8 := (hSw.cell (p := ⟨Bx, 3, none⟩) lX hSx).trans x3'
      have y9 := (hSw.cell (p := ⟨Bx, 4, none⟩) lX hSx).trans x4'
      have y10 := (hSw.cell (p := ⟨Bx, 5, none⟩) lX hSx).trans x5'
      try simp only [List.getElem_toArray, List.getElem_cons_zero, List.getElem_cons_succ]
      go_simp
      exact rfl
    try simp only [Act.put, List.setIfInBounds_toArray, List.set_cons_zero, List.set_cons_succ, List.getElem_toArray, List.getElem_cons_zero, List.getElem_cons_succ]
    refine mix.D_op (k := 4) rfl rfl (by kernel_rfl) (fun K' hK => ?_)
    simp only [List.getElem_toArray, List.getElem_cons_zero, List.getElem_cons_succ]
    go_wp2_with fail
    refine (HP.out _ hbd).mono ?_
    rintro e w2 hN
    have hN := npost_from hbd HFY.out hN
    obtain ⟨l1, A1, c1, rfl, e1, h1, b2⟩ := hN
    have hS2 : Keep S' W w2 := Keep.of_below b2
    refine hK.out _ _ (fun _ => hS2) ?_
    clear hK K'
    try simp only [Act.put, List.setIfInBounds_toArray, List.set_cons_zero, List.set_cons_succ]
    refine mix.D_op (k := 5) rfl rfl (by kernel_rfl) (fun K' hK => ?_)
    simp only [List.getElem_toArray, List.getElem_cons_zero, List.getElem_cons_succ]
    go_wp2_with fail
    refine (HL.out _ b2 _ _ _ e1 h1).mono ?_
    rintro e w3 ⟨v3, rfl, hLP⟩
    have hS3 : Keep S' W w3 := hS2.trans hLP.1 (fun g hg _ => hg)
    have hfit := laid_fits (i := st.1.length) h1.2.2.2.2 (by have := HLL.out l1 e1; omega)
    have ho3 := hLP.2.1
    rw [List.take_length] at ho3
    obtain ⟨R3, r3, rfl, hK3⟩ := own_ks (F := fun g => g < w3.heap.size) ho3 (laid_len _ _).symm (by rw [laid_len]; have := HLL.out l1 e1; omega) (fun g hg => (ho3.lt g hg).2) hfit
    refine hK.out _ _ (fun _ => hS3) ?_
    clear hK K'
    try simp only [Act.put, List.setIfInBounds_toArray, List.set_cons_zero, List.set_cons_succ]
    refine mix.D_take (i := 6) (v := ?_) rfl (by kernel_rfl) (by kernel_rfl) (fun _ _ _ h => h) (Or.inl ⟨by rfl, ?_⟩) hS3 ?_
    rotate_left
    · intro w' hSw
      try simp only [List.getElem_toArray, List.getElem_cons_zero, List.getElem_cons_succ]
      go_simp
      exact rfl
    try simp only [Act.put, List.setIfInBounds_toArray, List.set_cons_zero, List.set_cons_succ, List.getElem_toArray, List.getElem_cons_zero, List.getElem_cons_succ]
    refine mix.D_take (i := 7) (v := ?_) rfl (by kernel_rfl) (by kernel_rfl) (fun _ _ _ h => h) (Or.inl ⟨by rfl, ?_⟩) hS3 ?_
    rotate_left
    · intro w' hSw
      try simp only [List.getElem_toArray, List.getElem_cons_zero, List.getElem_cons_succ]
      go_simp
      exact rfl
    try simp only [Act.put, List.setIfInBounds_toArray, List.set_cons_zero, List.set_cons_succ, List.getElem_toArray, List.getElem_cons_zero, List.getElem_cons_succ]
    refine mix.D_take (i := 8) (v := ?_) rfl (by kernel_rfl) (by kernel_rfl) (fun _ _ _ h => h) (Or.inl ⟨by rfl, ?_⟩) hS3 ?_
    rotate_left
    · intro w' hSw
      try simp only [List.getElem_toArray, List.getElem_cons_zero, List.getElem_cons_succ]
      go_simp
      exact rfl
    try simp only [Act.put, List.setIfInBounds_toArray, List.set_cons_zero, List.set_cons_succ, List.getElem_toArray, List.getElem_cons_zero, List.getElem_cons_succ]
    refine mix.D_op (k := 9) rfl rfl (by kernel_rfl) (fun K' hK => ?_)
    simp only [List.getElem_toArray, List.getElem_cons_zero, List.getElem_cons_succ]
    go_wp2_with fail
    refine hK.out _ _ (fun _ => hS3) ?_
    clear hK K'
    try simp only [Act.put, List.setIfInBounds_toArray, List.set_cons_zero, List.set_cons_succ]
    refine mix.D_op (k := 10) rfl rfl (by kernel_rfl) (fun K' hK => ?_)
    simp only [List.getElem_toArray, List.getElem_cons_zero, List.getElem_cons_succ]
    go_wp2_with fail
    refine hK.out _ _ (fun h => by simp at h) ?_
    clear hK K'
    refine mix.D_done (by kernel_rfl) ?_ _
    try simp only [Act.put, List.setIfInBounds_toArray, List.set_cons_zero, List.set_cons_succ, List.getElem_toArray, List.getElem_cons_zero, List.getElem_cons_succ]
    have kX3 := hS3.blk bX hSx
    have kG3 := hS3.blk i4 hn1
    have x0' := kX3.cell 0
    have x1' := kX3.cell 1
    have x2' := kX3.cell 2
    have x3' := kX3.cell 3
    have x4' := kX3.cell 4
    have x5' := kX3.cell 5
    simp only [St.cells, List.getElem?_toArray, List.getElem?_cons_zero, List.getElem?_cons_succ] at x0' x1' x2' x3' x4' x5'
    have lX3 := kX3.lt
    have hover := over_any s (laid st.1.length l1) R3 r3 (fun g => g < w3.heap.size) w3 ((hsn.2.agree (w' := w3) (fun g hg => ((hS3.block g (by have := (hF g hg).1; omega) (fun h0 => by
      rcases (i3 g h0).1 with h1 | ⟨h1, _⟩
      · exact (hF g hg).2 h1
      · have := (hF g hg).1; omega)).trans (i10.block g (hF g hg).1 (hF g hg).2)))).mono (fun g hg => by have := (hF g hg).1; have := hS3.size; omega)) hK3 (fun g hg => hg) (by rw [HA.out]; exact Nat.zero_le _) (by rw [HB.out]; omega) (by rw [laid_len]; have := HLL.out l1 e1; omega)
    have HO := vers.lay hover
    clear hover c0 c7 gy0 gy1 gy2
    gi_wp2_with (refine ⟨trivial, ?_⟩; gi_at_call 88; refine (CallsIn.inRound l (callsIn_wide.2 HO.out)).mono ?_; rintro e w4 ⟨v4, rfl, ho4, hb4⟩; obtain ⟨A4, c4, rfl, _⟩ := row_rdF ho4; have kG4 := kG3.below hb4 kG3.lt; have z0 := kG4.cell 0; have z1 := kG4.cell 1; have z2 := kG4.cell 2; simp only [List.getElem?_toArray, List.getElem?_cons_zero, List.getElem?_cons_succ] at z0 z1 z2; have f0 := kG4.frozen 0; have f1 := kG4.frozen 1; have f2 := kG4.frozen 2; have lG4 := kG4.lt)
    rw [HA.out, HB.out] at ho4
    have hU := up_next (B := W1.heap.size) (fv := (.func (.func 59) #[] #[])) hSl i1 i2 i3 i4 i6 i7 i8 i9 i10 i11 hsn hF b2 e1 hLP ho4 hb4 hfit hks (HLL.out l1 e1) HA.out HB.out (by omega)
    obtain ⟨u1, u2, u3⟩ := hU
    have u3 := u3 (fun g => F g ∨ g = w.heap.size + 1 + 1 + 1 + 1 + 1) (fun g hg => by
      rcases hg with hg | hg
      · have := hF g hg
        refine ⟨by omega, fun h0 => ?_, by omega⟩
        rcases (i3 g h0).1 with h1 | ⟨h1, _⟩
        · exact this.2 h1
        · omega
      · exact ⟨by omega, hSb g (by omega) (by omega), by omega⟩)
    have k5'' := (u3 _ (.inr rfl)).trans k5'
    unfold set3 at u1 u2 u3 k5''
    rw [HA.out, HB.out]
    exact ⟨u2, u3, HN.out _ u1, k5''⟩
  case done =>
    rintro D ys W hD rfl ⟨hI, k5'⟩ hK
    obtain ⟨y, i4, i8, i9, HU⟩ := up_done hSl hI
    have gy0 := i4.cell 0
    have gy1 := i4.cell 1
    have gy2 := i4.cell 2
    have z0 := i8.cell 0
    have z1 := i8.cell 1
    have z2 := i8.cell 2
    have e0 := i9.cell 0
    simp only [List.getElem?_toArray, List.getElem?_cons_zero, List.getElem?_cons_succ] at gy0 gy1 gy2 z0 z1 z2 e0
    have f0 := i8.frozen 0
    have f1 := i8.frozen 1
    have f2 := i8.frozen 2
    have fe := i9.frozen 0
    have lz := i8.lt
    have le := i9.lt
    have ly := i4.lt
    have hD6 : w.heap.size + 6 ≤ D := by omega
    gi_wp2
    have hK' : ((((W.setCell ⟨w.heap.size + 1 + 1 + 1, 0, none⟩ (.bool y.lf)).setCell ⟨w.heap.size + 1 + 1 + 1, 1, none⟩ (.slice y.A y.es.length y.c)).setCell ⟨w.heap.size + 1 + 1 + 1, 2, none⟩ (.slice y.Q y.ks.length y.m)).setCell ⟨w.heap.size + 1 + 1 + 1 + 1, 0, none⟩ (.int .i64 0)).heap[D]? = some (.deferred (some [])) := by
      rw [Below.heap_setCell _ _ _ _ (by simp; omega), Below.heap_setCell _ _ _ _ (by simp; omega), Below.heap_setCell _ _ _ _ (by simp; omega), Below.heap_setCell _ _ _ _ (by simp; omega)]
      exact hK
    have kz := ((i8.put 0 (.bool y.lf)).put 1 (.slice y.A y.es.length y.c)).put 2 (.slice y.Q y.ks.length y.m)
    have kz := (kz.far (p := ⟨w.heap.size + 1 + 1 + 1 + 1, 0, none⟩) (by simp) (.int .i64 0))
    have ke := (((i9.far (p := ⟨w.heap.size + 1 + 1 + 1, 0, none⟩) (by simp) (.bool y.lf)).far (p := ⟨w.heap.size + 1 + 1 + 1, 1, none⟩) (by simp) (.slice y.A y.es.length y.c)).far (p := ⟨w.heap.size + 1 + 1 + 1, 2, none⟩) (by simp) (.slice y.Q y.ks.length y.m)).put 0 (.int .i64 0)
    have bz := ((((Below.refl 0 W).setCell (p := ⟨w.heap.size + 1 + 1 + 1, 0, none⟩) (Nat.zero_le _) (.bool y.lf)).setCell (p := ⟨w.heap.size + 1 + 1 + 1, 1, none⟩) (Nat.zero_le _) (.slice y.A y.es.length y.c)).setCell (p := ⟨w.heap.size + 1 + 1 + 1, 2, none⟩) (Nat.zero_le _) (.slice y.Q y.ks.length y.m)).setCell (p := ⟨w.heap.size + 1 + 1 + 1 + 1, 0, none⟩) (Nat.zero_le _) (.int .i64 0)
    have az : ∀ g, g ≠ w.heap.size + 1 + 1 + 1 → g ≠ w.heap.size + 1 + 1 + 1 + 1 → ((((W.setCell ⟨w.heap.size + 1 + 1 + 1, 0, none⟩ (.bool y.lf)).setCell ⟨w.heap.size + 1 + 1 + 1, 1, none⟩ (.slice y.A y.es.length y.c)).setCell ⟨w.heap.size + 1 + 1 + 1, 2, none⟩ (.slice y.Q y.ks.length y.m)).setCell ⟨w.heap.size + 1 + 1 + 1 + 1, 0, none⟩ (.int .i64 0)).heap[g]? = W.heap[g]? := fun g g1 g2 => by
      rw [Below.heap_setCell _ _ _ _ (by simpa using g2), Below.heap_setCell _ _ _ _ (by simpa using g1), Below.heap_setCell _ _ _ _ (by simpa using g1), Below.heap_setCell _ _ _ _ (by simpa using g1)]
    have sz : ((((W.setCell ⟨w.heap.size + 1 + 1 + 1, 0, none⟩ (.bool y.lf)).setCell ⟨w.heap.size + 1 + 1 + 1, 1, none⟩ (.slice y.A y.es.length y.c)).setCell ⟨w.heap.size + 1 + 1 + 1, 2, none⟩ (.slice y.Q y.ks.length y.m)).setCell ⟨w.heap.size + 1 + 1 + 1 + 1, 0, none⟩ (.int .i64 0)).heap.size = W.heap.size := by simp
    simp only [List.setIfInBounds_toArray, List.set_cons_zero, List.set_cons_succ] at kz ke
    generalize ((((W.setCell ⟨w.heap.size + 1 + 1 + 1, 0, none⟩ (.bool y.lf)).setCell ⟨w.heap.size + 1 + 1 + 1, 1, none⟩ (.slice y.A y.es.length y.c)).setCell ⟨w.heap.size + 1 + 1 + 1, 2, none⟩ (.slice y.Q y.ks.length y.m)).setCell ⟨w.heap.size + 1 + 1 + 1 + 1, 0, none⟩ (.int .i64 0)) = WX at hK' kz ke bz az sz ⊢
    refine ⟨by simp, .inl ⟨_, _, rfl, run_takeDeferred hK', ?_⟩⟩
    have hg := grownBy_putObj' WX D (.deferred none)
    have hr : ∀ r, some D = some r → ∃ o : Obj, WX.heap[r]? = some o ∧ o.isCells = false := fun r e => by cases e; exact ⟨_, hK', rfl⟩
    have kz := (grown_isC hg hr (isC_blk kz)).trans kz
    have ke := (grown_isC hg hr (isC_blk ke)).trans ke
    have kz : Blk (WX.putObj D (.deferred none)) (w.heap.size + 1 + 1 + 1) 60 _ := kz
    have ke : Blk (WX.putObj D (.deferred none)) (w.heap.size + 1 + 1 + 1 + 1) 28 _ := ke
    have z0 := kz.cell 0
    have z1 := kz.cell 1
    have z2 := kz.cell 2
    have e0 := ke.cell 0
    simp only [List.getElem?_toArray, List.getElem?_cons_zero, List.getElem?_cons_succ] at z0 z1 z2 e0
    refine ⟨.tuple #[y.val, .int .i64 0], ?_, HU _ D _ hD6 hK rfl (fun g g1 g2 g3 => ?_) (by rw [← sz]; simp) (hg.os.trans bz.os) (hg.tape.trans bz.tape) (hg.output.trans bz.output)⟩
    · simp [results, Try.results51, go_sem, z0, z1, z2, e0]
    · exact (World.putObj_heap_other g3).trans (az g g1 g2)
  case stop =>
    rintro D cc pre W hD _ h0
    exact h0.elim

end Go.Proofs.Ytnndohdiiglgmaa.trees

/- climber.rooted, where there is room; Empty; up over steps. -/

namespace Go.Proofs.Ytnndohdiiglgmaa.trees
set_option linter.unusedVariables false
set_option linter.unusedSimpArgs false
open Go.RowKit Go.Shelf Go.Proofs.Ytnndohdiiglgmaa.base Go.Proofs.Ytnndohdiiglgmaa.vers Go.Proofs.Ytnndohdiiglgmaa.nodes Go.Proofs.Ytnndohdiiglgmaa.quotas

theorem back_rev {α : Type} (l : List α) (z : α) : (back l z l.length).map (·.2) = l.reverse := by
  refine List.ext_getElem (by simp [back]) fun i h1 h2 => ?_
  simp only [back, List.length_map, List.length_range] at h1
  simp only [back, List.getElem_map, List.getElem_range, List.getElem_reverse]
  rw [List.getElem?_eq_getElem (by omega)]
  rfl
def upR (made : P3 → St → List P3) (s : List P3 × P3) (l : List St) : List P3 × P3 := l.foldl (stepP made) s
theorem upP_back {α : Type} (made : P3 → St → List P3) (s : List P3 × P3) (f : α → St) (l : List α) (z : α) : upP made s ((back l z l.length).map fun p => (p.1, f p.2)) = upR made s (l.map f).reverse := by
  rw [← List.map_reverse, ← back_rev l z, upR, upP, List.map_map, List.foldl_map, List.foldl_map]
  rfl
theorem up_put (ss : List St) (A : Option Addr) (c : Nat) (x0 : N) (h : Nat) (S : Nat → Prop) (ns : List P3) (F : Nat → Prop) (w : World) (hh : Hp w h S ns) (hS : StF w F ss A c) (hx : NsF w F x0) (hF : ∀ g, F g → g < w.heap.size ∧ ¬ S g)
    (hst : ∀ s ∈ ss, NsF w F s.n ∧ s.na = 0 ∧ s.nb = 0 ∧ s.at_ < s.n.ks.length ∧ s.n.ks.length ≤ 1000) (hn : ns.length + 2 * ss.length ≤ 20000) (hxQ : ∀ a, x0.Q = some a → a.block < w.heap.size) :
    Calls Try.prog 51 #[clim h, .slice A ss.length c, x0.val, .func (.func 59) #[] #[]] w (UpPost w h S (upR madePut (ns, x0.p) ss.reverse)) := by
  cases ss with
  | nil =>
    have h0 := up_gen (α := Unit) (fun _ => ⟨x0, 0, none, 0, 0, none, 0, 0⟩) [] () A c x0 h S ns F w hh hS hx hF (fun e => by simp at e) hn hxQ
    exact h0
  | cons s0 l =>
    obtain ⟨L, hL⟩ : ∃ L, L = (s0 :: l).attachWith (fun s : St => NsF w F s.n ∧ s.na = 0 ∧ s.nb = 0 ∧ s.at_ < s.n.ks.length ∧ s.n.ks.length ≤ 1000) hst := ⟨_, rfl⟩
    have e : L.map (fun a => a.1) = s0 :: l := by rw [hL]; exact List.attachWith_map_subtype_val _
    have e2 : L.length = (s0 :: l).length := by rw [hL, List.length_attachWith]
    have h0 := up_gen (fun a : { s : St // NsF w F s.n ∧ s.na = 0 ∧ s.nb = 0 ∧ s.at_ < s.n.ks.length ∧ s.n.ks.length ≤ 1000 } => a.1) L ⟨s0, hst s0 List.mem_cons_self⟩ A c x0 h S ns F w hh (by rw [e]; exact hS) hx hF (fun _ a => a.2) (by rw [e2]; exact hn) hxQ
    have h1 := upP_back madePut (ns, x0.p) (fun a : { s : St // NsF w F s.n ∧ s.na = 0 ∧ s.nb = 0 ∧ s.at_ < s.n.ks.length ∧ s.n.ks.length ≤ 1000 } => a.1) L ⟨s0, hst s0 List.mem_cons_self⟩
    rw [h1, e, e2] at h0
    exact h0

/-- what comes of a root: the pages behind it, its reference -/
def rootP (ns : List P3) (l : List P3) : List P3 × R := if l.length = 1 then (ns ++ l, refOf ns.length) else (ns ++ l ++ [(false, [], laidP ns.length l)], refOf (ns.length + l.length))
def RootPost (w : World) (h : Nat) (S : Nat → Prop) (st : List P3 × R) (e : Ending) (w' : World) : Prop :=
  ∃ S' : Nat → Prop, e = .returned (.tuple #[st.2.val, .int .i64 0]) ∧ Hp w' h S' st.1 ∧ (∀ g, S' g → S g ∨ w.heap.size ≤ g) ∧ Keep S w w'

set_option maxRecDepth 100000 in
set_option maxHeartbeats 4000000 in
theorem rooted_one (l : List N) (A : Option Addr) (c : Nat) (h : Nat) (S : Nat → Prop) (ns : List P3) (w : World) (hh : Hp w h S ns) (F : Nat → Prop) (hL : LF w F l A c) (hF : ∀ g, F g → g < w.heap.size ∧ ¬ S g) (h1 : l.length = 1) (hn : ns.length + 1 ≤ 20000) :
    Calls Try.prog 46 #[clim h, .slice A l.length c] w (RootPost w h S (ns ++ l.map N.p, refOf ns.length)) := by
  have hSl := hh.lt
  have b0 : Below w.heap.size w ((w.alloc (.cells #[.iface 23 (.pointer (some ⟨h, 0, none⟩))] 111)).alloc (.cells #[.int .u64 0, .int .i64 0, .int .i64 0, .int .i64 0] 27)) := ((Below.refl _ _).alloc (Nat.le_refl _) _).alloc (by simp) _
  have kC := (Blk.new w 111 #[.iface 23 (.pointer (some ⟨h, 0, none⟩))]).alloc (.cells #[.int .u64 0, .int .i64 0, .int .i64 0, .int .i64 0] 27)
  have kR := Blk.new (w.alloc (.cells #[.iface 23 (.pointer (some ⟨h, 0, none⟩))] 111)) 27 #[.int .u64 0, .int .i64 0, .int .i64 0, .int .i64 0]
  rw [World.size_alloc] at kR
  have hlay := lay_ok l A c h S ns _ (hh.below b0) F (hL.agree (Agree.of_below b0 fun g hg => (hF g hg).1)) (fun g hg => ⟨by have := (hF g hg).1; simp; omega, (hF g hg).2⟩) (by omega)
  rw [h1] at hlay ⊢
  go_enter Try.func46, Try.ntmps46
  go_wp2_with fail
  refine hlay.mono ?_
  rintro e w2 ⟨v, rfl, hK, ho, _, S2, hH2, hS2, hv2⟩
  rw [show l.take 1 = l from List.take_of_length_le (by omega)] at ho hH2
  have hnS0 : ¬ S w.heap.size := fun h0 => by have := hSl _ h0; omega
  have hnS1 : ¬ S (w.heap.size + 1) := fun h0 => by have := hSl _ h0; omega
  have kC := hK.blk kC hnS0
  have kR := hK.blk kR hnS1
  obtain ⟨x, rfl⟩ : ∃ x, l = [x] := by
    cases l with
    | nil => cases h1
    | cons x t => cases t with
      | nil => exact ⟨x, rfl⟩
      | cons y u => simp at h1
  have hlaid : laid ns.length [x] = [kidP x.p (lowOf x.lf x.es x.ks) ns.length] := rfl
  rw [hlaid] at ho
  generalize lowOf x.lf x.es x.ks = low at ho
  obtain ⟨g, cap, rfl, _, hg, hcap⟩ := own_slice_form ho (by omega)
  obtain ⟨A', c', e', _, _, hr⟩ := row_rdF ho
  injection e' with e' _ _
  subst e'
  have r : ∀ j u, (cellsK [kidP x.p low ns.length])[j]? = some u → w2.cell? ⟨g, j, none⟩ = some u := fun j u hj => by
    obtain ⟨b, off, e2, _, hc⟩ := hr j u hj
    cases e2
    rw [Nat.zero_add] at hc
    exact hc
  have r1 := r 1 _ rfl
  have r2 := r 2 _ rfl
  have r3 := r 3 _ rfl
  have r4 := r 4 _ rfl
  simp only [kidP] at r1 r2 r3 r4
  have HR := vers.lay (rfl : refOf ns.length = refOf ns.length)
  generalize hrr : refOf ns.length = rr at r1 r2 r3 r4 ⊢
  have HRR := vers.lay hrr
  clear HR hrr r hr ho hlay
  obtain ⟨rk, rg, ro, rn⟩ := rr
  simp only at r1 r2 r3 r4
  have z0 := kR.cell 0
  have z1 := kR.cell 1
  have z2 := kR.cell 2
  have z3 := kR.cell 3
  simp only [List.getElem?_toArray, List.getElem?_cons_zero, List.getElem?_cons_succ] at z0 z1 z2 z3
  have f0 := kR.frozen 0
  have f1 := kR.frozen 1
  have f2 := kR.frozen 2
  have f3 := kR.frozen 3
  have lR := kR.lt
  go_wp2_with fail
  have kz := (((kR.put 0 (.int .u64 (rk : Int))).put 1 (.int .i64 rg)).put 2 (.int .i64 ro)).put 3 (.int .i64 rn)
  have KK : Keep S w w2 := ⟨hK.os.trans b0.os, hK.tape.trans b0.tape, hK.output.trans b0.output, Nat.le_trans b0.size hK.size, fun k hk hn => (hK.block k (Nat.lt_of_lt_of_le hk b0.size) hn).trans (b0.block k hk)⟩
  have K4 := four4_keep KK (g := w.heap.size + 1) (by omega) (.int .u64 (rk : Int)) (.int .i64 rg) (.int .i64 ro) (.int .i64 rn)
  have hne : ¬ S2 (w.heap.size + 1) := fun h0 => by
    rcases hS2 _ h0 with h1 | h1
    · exact hnS1 h1
    · have := h1.1; simp only [World.size_alloc] at this; omega
  have H4 := hH2.four hne (.int .u64 (rk : Int)) (.int .i64 rg) (.int .i64 ro) (.int .i64 rn)
  unfold four4 at K4 H4
  simp only [List.setIfInBounds_toArray, List.set_cons_zero, List.set_cons_succ] at kz
  generalize (((w2.setCell ⟨w.heap.size + 1, 0, none⟩ (.int .u64 (rk : Int))).setCell ⟨w.heap.size + 1, 1, none⟩ (.int .i64 rg)).setCell ⟨w.heap.size + 1, 2, none⟩ (.int .i64 ro)).setCell ⟨w.heap.size + 1, 3, none⟩ (.int .i64 rn) = wX at kz K4 H4 ⊢
  have z0 := kz.cell 0
  have z1 := kz.cell 1
  have z2 := kz.cell 2
  have z3 := kz.cell 3
  simp only [List.getElem?_toArray, List.getElem?_cons_zero, List.getElem?_cons_succ] at z0 z1 z2 z3
  refine bodyPost_ret (v := .tuple #[.agg #[.int .u64 (rk : Int), .int .i64 rg, .int .i64 ro, .int .i64 rn], .int .i64 0]) (by simp [results, Try.results46, go_sem, z0, z1, z2, z3]) rfl ⟨S2, by rw [HRR.out], H4, fun g hg => ?_, K4⟩
  rcases hS2 g hg with h1 | h1
  · exact .inl h1
  · have := h1.1; simp only [World.size_alloc] at this; exact .inr (by omega)

set_option maxRecDepth 100000 in
set_option maxHeartbeats 4000000 in
theorem rooted_two (l : List N) (A : Option Addr) (c : Nat) (h : Nat) (S : Nat → Prop) (ns : List P3) (w : World) (hh : Hp w h S ns) (F : Nat → Prop) (hL : LF w F l A c) (hF : ∀ g, F g → g < w.heap.size ∧ ¬ S g) (h1 : 2 ≤ l.length) (hn : ns.length + l.length + 1 ≤ 20000) :
    Calls Try.prog 46 #[clim h, .slice A l.length c] w (RootPost w h S (ns ++ l.map N.p ++ [(false, [], laidP ns.length (l.map N.p))], refOf (ns.length + l.length))) := by
  have hSl := hh.lt
  have b0 : Below w.heap.size w ((w.alloc (.cells #[.iface 23 (.pointer (some ⟨h, 0, none⟩))] 111)).alloc (.cells #[.int .u64 0, .int .i64 0, .int .i64 0, .int .i64 0] 27)) := ((Below.refl _ _).alloc (Nat.le_refl _) _).alloc (by simp) _
  have kC := (Blk.new w 111 #[.iface 23 (.pointer (some ⟨h, 0, none⟩))]).alloc (.cells #[.int .u64 0, .int .i64 0, .int .i64 0, .int .i64 0] 27)
  have kR := Blk.new (w.alloc (.cells #[.iface 23 (.pointer (some ⟨h, 0, none⟩))] 111)) 27 #[.int .u64 0, .int .i64 0, .int .i64 0, .int .i64 0]
  rw [World.size_alloc] at kR
  have hlay := lay_ok l A c h S ns _ (hh.below b0) F (hL.agree (Agree.of_below b0 fun g hg => (hF g hg).1)) (fun g hg => ⟨by have := (hF g hg).1; simp; omega, (hF g hg).2⟩) (by omega)
  have hfit := laid_fits (i := ns.length) hL.2.2.2.2 (by omega)
  have hll := laid_len ns.length l
  rw [← laid_p]
  have hw0 : ((w.alloc (.cells #[.iface 23 (.pointer (some ⟨h, 0, none⟩))] 111)).alloc (.cells #[.int .u64 0, .int .i64 0, .int .i64 0, .int .i64 0] 27)).heap.size = w.heap.size + 2 := by simp
  go_enter Try.func46, Try.ntmps46
  go_wp2_with fail
  refine hlay.mono ?_
  rintro e w1 ⟨v, rfl, hK, ho, _, S1, hH1, hS1, hv1⟩
  rw [List.take_length] at ho hH1
  rw [hw0] at hS1 hv1
  have z01 := hK.size
  rw [hw0] at z01
  have hnS0 : ¬ S w.heap.size := fun h0 => by have := hSl _ h0; omega
  have hnS1 : ¬ S (w.heap.size + 1) := fun h0 => by have := hSl _ h0; omega
  have kC := hK.blk kC hnS0
  have kR := hK.blk kR hnS1
  have hl1 := ho.lt
  obtain ⟨R3, r3, rfl, hK3⟩ := own_ks (F := fun g => w.heap.size + 3 ≤ g ∧ g < w1.heap.size ∧ ¬ S1 g) ho hll.symm (by omega) (fun g hg => ⟨(hv1 g hg).1, (hl1 g hg).2, (hv1 g hg).2⟩) hfit
  generalize hks : laid ns.length l = ks3 at hfit hll hK3 ho ⊢
  have HKS := vers.lay hks
  clear hks
  have c0 := kC.cell 0
  simp only [List.getElem?_toArray, List.getElem?_cons_zero, List.getElem?_cons_succ] at c0
  have lC := kC.lt
  have n1 : (1 : Int) < (ks3.length : Int) := by omega
  have kN := Blk.new w1 60 #[.bool false, .slice none 0 0, .slice R3 ks3.length r3]
  have bN : Below w1.heap.size w1 (w1.alloc (.cells #[.bool false, .slice none 0 0, .slice R3 ks3.length r3] 60)) := (Below.refl _ _).alloc (Nat.le_refl _) _
  have sN : (w1.alloc (.cells #[.bool false, .slice none 0 0, .slice R3 ks3.length r3] 60)).heap.size = w1.heap.size + 1 := by simp
  have hlt1 := hH1.lt
  have hone := rooted_one [⟨false, [], ks3, none, 0, R3, r3⟩] (some ⟨w1.heap.size, 0, none⟩) 1 h S1 (ns ++ l.map N.p) _ (hH1.below bN) (fun g => (w.heap.size + 3 ≤ g ∧ g < w1.heap.size ∧ ¬ S1 g) ∨ g = w1.heap.size)
    ⟨Nat.le_refl _, by simp, (fun e => by cases e), (fun j u hj => ⟨w1.heap.size, 0, rfl, .inr rfl, by rw [Nat.zero_add, kN.cell, ← Array.getElem?_toList]; exact hj⟩), fun x hx => by
      rw [List.mem_singleton.1 hx]
      exact ⟨EsF.nil _ _, (hK3.agree (Agree.of_below bN fun g hg => hg.2.1)).mono fun g hg => .inl hg⟩⟩
    (fun g hg => by
      rcases hg with hg | hg
      · exact ⟨by omega, hg.2.2⟩
      · exact ⟨by omega, fun h0 => by have := hlt1 g h0; omega⟩) rfl (by simp; omega)
  rw [List.length_append, List.length_map] at hone
  obtain ⟨wA, hwA⟩ : ∃ wA, w1.alloc (.cells #[.bool false, .slice none 0 0, .slice R3 ks3.length r3] 60) = wA := ⟨_, rfl⟩
  rw [hwA] at bN sN hone kN
  have HWA := vers.lay hwA
  clear hwA
  clear ho hK3 hv1 kN hL hlay hll
  go_wp2_with fail
  rw [HWA.out]
  refine hone.mono ?_
  rintro e w2 ⟨S2, rfl, hH2, hSS, hK2⟩
  have hK : Keep S ((w.alloc (.cells #[.iface 23 (.pointer (some ⟨h, 0, none⟩))] 111)).alloc (.cells #[.int .u64 0, .int .i64 0, .int .i64 0, .int .i64 0] 27)) w2 := ⟨hK2.os.trans (bN.os.trans hK.os), hK2.tape.trans (bN.tape.trans hK.tape), hK2.output.trans (bN.output.trans hK.output), by have := hK2.size; omega, fun k hk hn => (hK2.block k (by omega) (fun h0 => by
    rcases hS1 k h0 with h1 | h1
    · exact hn h1
    · omega)).trans ((bN.block k (by omega)).trans (hK.block k hk hn))⟩
  have hS2 : ∀ g, S2 g → S g ∨ (((w.alloc (.cells #[.iface 23 (.pointer (some ⟨h, 0, none⟩))] 111)).alloc (.cells #[.int .u64 0, .int .i64 0, .int .i64 0, .int .i64 0] 27)).heap.size + 1 ≤ g ∧ g < w2.heap.size) := fun g hg => by
    have h9 := hH2.lt g hg
    rcases hSS g hg with h1 | h1
    · rcases hS1 g h1 with h2 | h2
      · exact .inl h2
      · exact .inr ⟨by omega, h9⟩
    · exact .inr ⟨by omega, h9⟩
  have hb2 : ¬ S1 (w.heap.size + 1) := fun h0 => by
    rcases hS1 _ h0 with h1 | h1
    · exact hnS1 h1
    · omega
  have kR := hK2.blk (kR.below bN kR.lt) hb2
  generalize hrr : refOf (ns.length + l.length) = rr
  have HRR := vers.lay hrr
  clear hrr hone
  obtain ⟨rk, rg, ro, rn⟩ := rr
  have z0 := kR.cell 0
  have z1 := kR.cell 1
  have z2 := kR.cell 2
  have z3 := kR.cell 3
  simp only [List.getElem?_toArray, List.getElem?_cons_zero, List.getElem?_cons_succ] at z0 z1 z2 z3
  have f0 := kR.frozen 0
  have f1 := kR.frozen 1
  have f2 := kR.frozen 2
  have f3 := kR.frozen 3
  have lR := kR.lt
  go_wp2_with fail
  have kz := (((kR.put 0 (.int .u64 (rk : Int))).put 1 (.int .i64 rg)).put 2 (.int .i64 ro)).put 3 (.int .i64 rn)
  have KK : Keep S w w2 := ⟨hK.os.trans b0.os, hK.tape.trans b0.tape, hK.output.trans b0.output, Nat.le_trans b0.size hK.size, fun k hk hn => (hK.block k (Nat.lt_of_lt_of_le hk b0.size) hn).trans (b0.block k hk)⟩
  have K4 := four4_keep KK (g := w.heap.size + 1) (by omega) (.int .u64 (rk : Int)) (.int .i64 rg) (.int .i64 ro) (.int .i64 rn)
  have hne : ¬ S2 (w.heap.size + 1) := fun h0 => by
    rcases hS2 _ h0 with h1 | h1
    · exact hnS1 h1
    · have := h1.1; simp only [World.size_alloc] at this; omega
  have H4 := hH2.four hne (.int .u64 (rk : Int)) (.int .i64 rg) (.int .i64 ro) (.int .i64 rn)
  unfold four4 at K4 H4
  simp only [List.setIfInBounds_toArray, List.set_cons_zero, List.set_cons_succ] at kz
  generalize (((w2.setCell ⟨w.heap.size + 1, 0, none⟩ (.int .u64 (rk : Int))).setCell ⟨w.heap.size + 1, 1, none⟩ (.int .i64 rg)).setCell ⟨w.heap.size + 1, 2, none⟩ (.int .i64 ro)).setCell ⟨w.heap.size + 1, 3, none⟩ (.int .i64 rn) = wX at kz K4 H4 ⊢
  have z0 := kz.cell 0
  have z1 := kz.cell 1
  have z2 := kz.cell 2
  have z3 := kz.cell 3
  simp only [List.getElem?_toArray, List.getElem?_cons_zero, List.getElem?_cons_succ] at z0 z1 z2 z3
  refine bodyPost_ret (v := .tuple #[.agg #[.int .u64 (rk : Int), .int .i64 rg, .int .i64 ro, .int .i64 rn], .int .i64 0]) (by simp [results, Try.results46, go_sem, z0, z1, z2, z3]) rfl ⟨S2, by rw [HRR.out], (by rw [HKS.out]; exact H4), fun g hg => ?_, K4⟩
  rcases hS2 g hg with h1 | h1
  · exact .inl h1
  · have := h1.1; simp only [World.size_alloc] at this; exact .inr (by omega)

theorem rooted_ok (l : List N) (A : Option Addr) (c : Nat) (h : Nat) (S : Nat → Prop) (ns : List P3) (w : World) (hh : Hp w h S ns) (F : Nat → Prop) (hL : LF w F l A c) (hF : ∀ g, F g → g < w.heap.size ∧ ¬ S g) (h1 : 1 ≤ l.length) (hn : ns.length + l.length + 1 ≤ 20000) :
    Calls Try.prog 46 #[clim h, .slice A l.length c] w (RootPost w h S (rootP ns (l.map N.p))) := by
  unfold rootP
  rw [List.length_map]
  by_cases h2 : l.length = 1
  · rw [if_pos h2]
    exact rooted_one l A c h S ns w hh F hL hF h2 (by omega)
  · rw [if_neg h2]
    exact rooted_two l A c h S ns w hh F hL hF (by omega) hn

end Go.Proofs.Ytnndohdiiglgmaa.trees
