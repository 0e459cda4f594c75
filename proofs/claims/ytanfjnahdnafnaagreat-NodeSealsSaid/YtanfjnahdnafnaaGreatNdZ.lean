/- What letheref06's From answers. -/
import Derived.Test.YtanfjnahdnafnaaGreatNdY
import Derived.Test.YtanfjnahdnafnaaGreatNdW


namespace Go.Proofs.YtanfjnahdnafnaaGreat.nodes
set_option linter.unusedVariables false
set_option linter.unusedSimpArgs false
open Go.RowKit Go.Proofs.YtanfjnahdnafnaaGreat.base Go.Proofs.YtanfjnahdnafnaaGreat.quotas Go.Proofs.YtanfjnahdnafnaaGreat.vers Go.Proofs.YtanfjnahdnafnaaGreat.tm Go.Proofs.YtanfjnahdnafnaaGreat.lies Go.Proofs.YtanfjnahdnafnaaGreat.copies Go.Proofs.YtanfjnahdnafnaaGreat.makes

theorem Fx.far {w wr w' : World} {a b c d e f h : Int} {t : T} {u : Value} {B : Nat} (h1 : Fx w a b c d e f h t u wr) (hB : w.heap.size + 2 < B) (hs : wr.heap.size ≤ w'.heap.size) (hb : Below B wr w') : Fx w a b c d e f h t u w' := by
  obtain ⟨⟨⟨c0, c1, c2, c3, c4, c5, c6⟩, l1, l2, b1⟩, ⟨h2, h3, h5, h6⟩, h4⟩ := h1
  refine ⟨⟨⟨?_, ?_, ?_, ?_, ?_, ?_, ?_⟩, l1, by omega, b1.trans (hb.mono (by omega))⟩, ⟨?_, ?_, ?_, ?_⟩, h4.below hb (by omega)⟩ <;> (rw [hb.cell (by simp; omega)]; assumption)

set_option maxRecDepth 100000 in
set_option maxHeartbeats 1000000 in
theorem refFrom_bad1 (a b c d e f h : Int) (t : T) (A : Option Addr) (nl cap : Nat) (w : World) (hk : ¬ ok a b c d e f h) :
    Calls Tryz.prog 18 #[.agg #[.int .i64 a, .int .i64 b, .int .i64 c, .int .i64 d, .int .i64 e, .int .i64 f, .int .i64 h], .agg #[.int .i64 t.k, .int .u64 t.n, .string t.s, .slice A nl cap]] w (NAns w (zN, 40)) := by
  have F0 := Fx.new w a b c d e f h t (.slice A nl cap)
  go_enter Tryz.func18, Tryz.ntmps18
  go_wp2_with fail
  refine (quotas.refRight_no _ _ _ _ _ _ _ _ hk).mono ?_
  rintro x w1 ⟨rfl, hb1⟩
  have F1 := F0.next hb1
  clear F0 hb1
  obtain ⟨⟨⟨c0, c1, c2, c3, c4, c5, c6⟩, l1, l2, b1⟩, ⟨y0, y1, y2, y3⟩, k1⟩ := id F1
  have lk := k1.lt
  have z0 := k1.cell 0
  have z1 := k1.cell 1
  have z2 := k1.cell 2
  simp at z0 z1 z2
  have f0 := k1.frozen 0
  have f1 := k1.frozen 1
  have f2 := k1.frozen 2
  go_wp2_with fail
  refine bodyPost_ret (v := .tuple #[.agg #[.bool false, .slice none 0 0, .slice none 0 0], .int .i64 40]) (by simp [results, Tryz.results18, go_sem, z0, z1, z2]) rfl ?_
  exact NAns.bad _ (three_below b1 (by omega) _ _ _)

set_option maxRecDepth 100000 in
set_option maxHeartbeats 1000000 in
theorem refFrom_bad2 (a b c d e f h : Int) (t : T) (A : Option Addr) (cap : Nat) (w : World) (hL : Lies w w.heap.size t (.slice A t.l.length cap)) (hk : ok a b c d e f h) (n : Int) (hn : t.right = n) (hz : n ≠ 0) :
    Calls Tryz.prog 18 #[.agg #[.int .i64 a, .int .i64 b, .int .i64 c, .int .i64 d, .int .i64 e, .int .i64 f, .int .i64 h], .agg #[.int .i64 t.k, .int .u64 t.n, .string t.s, .slice A t.l.length cap]] w (NAns w (zN, n)) := by
  have F0 := Fx.new w a b c d e f h t (.slice A t.l.length cap)
  have hr := fun wr (hb : Below w.heap.size w wr) => rights.refRight_any t _ wr ((Lies.below hL hb).now hb.size)
  rw [hn] at hr
  unfold T.val at hr
  have d1 : (n != 0) = true := by simpa using hz
  clear hz hn hL
  generalize t.l.length = nl at *
  go_enter Tryz.func18, Tryz.ntmps18
  go_wp2_with fail
  refine (quotas.refRight_ok _ _ _ _ _ _ _ _ hk).mono ?_
  rintro x w1 ⟨rfl, hb1⟩
  have F1 := F0.next hb1
  clear F0 hb1
  obtain ⟨⟨⟨c0, c1, c2, c3, c4, c5, c6⟩, l1, l2, b1⟩, ⟨y0, y1, y2, y3⟩, k1⟩ := id F1
  have lk := k1.lt
  go_wp2_with fail
  refine (hr _ b1).mono ?_
  rintro x w2 ⟨rfl, hb2⟩
  have F2 := F1.next hb2
  clear F1 hb2 c0 c1 c2 c3 c4 c5 c6 l1 l2 b1 y0 y1 y2 y3 k1 lk
  obtain ⟨⟨⟨c0, c1, c2, c3, c4, c5, c6⟩, l1, l2, b1⟩, ⟨y0, y1, y2, y3⟩, k1⟩ := id F2
  have lk := k1.lt
  go_wp2_with fail
  refine (hr _ b1).mono ?_
  rintro x w3 ⟨rfl, hb3⟩
  have F3 := F2.next hb3
  clear F2 hb3 c0 c1 c2 c3 c4 c5 c6 l1 l2 b1 y0 y1 y2 y3 k1 lk hr
  obtain ⟨⟨⟨c0, c1, c2, c3, c4, c5, c6⟩, l1, l2, b1⟩, ⟨y0, y1, y2, y3⟩, k1⟩ := id F3
  have lk := k1.lt
  have z0 := k1.cell 0
  have z1 := k1.cell 1
  have z2 := k1.cell 2
  simp at z0 z1 z2
  have f0 := k1.frozen 0
  have f1 := k1.frozen 1
  have f2 := k1.frozen 2
  go_wp2_with fail
  refine bodyPost_ret (v := .tuple #[.agg #[.bool false, .slice none 0 0, .slice none 0 0], .int .i64 n]) (by simp [results, Tryz.results18, go_sem, z0, z1, z2]) rfl ?_
  exact NAns.bad _ (three_below b1 (by omega) _ _ _)

set_option maxRecDepth 100000 in
set_option maxHeartbeats 1000000 in
theorem refFrom_bad3 (a b c d e f h : Int) (t : T) (A : Option Addr) (cap : Nat) (w : World) (hL : Lies w w.heap.size t (.slice A t.l.length cap)) (hk : ok a b c d e f h) (hn : t.right = 0) (hz : nodB t = false) :
    Calls Tryz.prog 18 #[.agg #[.int .i64 a, .int .i64 b, .int .i64 c, .int .i64 d, .int .i64 e, .int .i64 f, .int .i64 h], .agg #[.int .i64 t.k, .int .u64 t.n, .string t.s, .slice A t.l.length cap]] w (NAns w (zN, 60)) := by
  have F0 := Fx.new w a b c d e f h t (.slice A t.l.length cap)
  have hr := fun wr (hb : Below w.heap.size w wr) => rights.refRight_any t _ wr ((Lies.below hL hb).now hb.size)
  rw [hn] at hr
  unfold T.val at hr
  have hd := fun wr (hb : Below w.heap.size w wr) => refFormed_any t A cap wr (S_world (S_of hL).1 hb)
  rw [hz] at hd
  clear hn hL hz
  generalize t.l.length = nl at *
  go_enter Tryz.func18, Tryz.ntmps18
  go_wp2_with fail
  refine (quotas.refRight_ok _ _ _ _ _ _ _ _ hk).mono ?_
  rintro x w1 ⟨rfl, hb1⟩
  have F1 := F0.next hb1
  clear F0 hb1
  obtain ⟨⟨⟨c0, c1, c2, c3, c4, c5, c6⟩, l1, l2, b1⟩, ⟨y0, y1, y2, y3⟩, k1⟩ := id F1
  have lk := k1.lt
  go_wp2_with fail
  refine (hr _ b1).mono ?_
  rintro x w2 ⟨rfl, hb2⟩
  have F2 := F1.next hb2
  clear F1 hb2 c0 c1 c2 c3 c4 c5 c6 l1 l2 b1 y0 y1 y2 y3 k1 lk hr
  obtain ⟨⟨⟨c0, c1, c2, c3, c4, c5, c6⟩, l1, l2, b1⟩, ⟨y0, y1, y2, y3⟩, k1⟩ := id F2
  have lk := k1.lt
  go_wp2_with fail
  refine (hd _ b1).mono ?_
  rintro x w3 ⟨rfl, hb3⟩
  have F3 := F2.next hb3
  clear F2 hb3 c0 c1 c2 c3 c4 c5 c6 l1 l2 b1 y0 y1 y2 y3 k1 lk hd
  obtain ⟨⟨⟨c0, c1, c2, c3, c4, c5, c6⟩, l1, l2, b1⟩, ⟨y0, y1, y2, y3⟩, k1⟩ := id F3
  have lk := k1.lt
  have z0 := k1.cell 0
  have z1 := k1.cell 1
  have z2 := k1.cell 2
  simp at z0 z1 z2
  have f0 := k1.frozen 0
  have f1 := k1.frozen 1
  have f2 := k1.frozen 2
  go_wp2_with fail
  refine bodyPost_ret (v := .tuple #[.agg #[.bool false, .slice none 0 0, .slice none 0 0], .int .i64 60]) (by simp [results, Tryz.results18, go_sem, z0, z1, z2]) rfl ?_
  exact NAns.bad _ (three_below b1 (by omega) _ _ _)

/-- a round's head of From -/
def FHdE (w : World) (a b c d e f h : Int) (m : Int) (s : ByteArray) (x : T) (r : List T) (bk off cap g : Nat) (i : Value) (wr : World) : Prop := ∃ (j : Nat) (u : Value) (es : List E), j ≤ r.length ∧ i = .int .i64 j ∧ Fx w a b c d e f h (T.mk 5 m s (x :: r)) (.slice (some ⟨bk, off, none⟩) (r.length + 1) cap) wr ∧ Blk wr g 28 #[.bool true, u, .slice none 0 0] ∧ OwnE (g + 1) wr es u ∧ Hid (es.map pe = (r.take j).map toEP)

set_option maxRecDepth 100000 in
set_option maxHeartbeats 1000000 in
theorem refFrom_leaf (a b c d e f h : Int) (m : Int) (s : ByteArray) (x : T) (r : List T) (bk off cap : Nat) (w : World) (hL : Lies w w.heap.size (T.mk 5 m s (x :: r)) (.slice (some ⟨bk, off, none⟩) (r.length + 1) cap)) (hk : ok a b c d e f h) (hn : (T.mk 5 m s (x :: r)).right = 0) (hz : nodB (T.mk 5 m s (x :: r)) = true) (hxn : x.n = 1) (hall : ∀ y ∈ r, entB y = true)
    (n : Int) (hnn : ndP a b c d e f h (true, r.map toEP, []) = n) (rr : P3 × Int) (hrr : (if n ≠ 0 then (zN, n) else ((true, r.map toEP, []), 0)) = rr) :
    Calls Tryz.prog 18 #[.agg #[.int .i64 a, .int .i64 b, .int .i64 c, .int .i64 d, .int .i64 e, .int .i64 f, .int .i64 h], .agg #[.int .i64 5, .int .u64 m, .string s, .slice (some ⟨bk, off, none⟩) (r.length + 1) cap]] w (NAns w rr) := by
  have F0 := Fx.new w a b c d e f h (T.mk 5 m s (x :: r)) (.slice (some ⟨bk, off, none⟩) (r.length + 1) cap)
  have hr := fun wr (hb : Below w.heap.size w wr) => rights.refRight_any (T.mk 5 m s (x :: r)) _ wr ((Lies.below hL hb).now hb.size)
  rw [hn] at hr
  have hd := fun wr (hb : Below w.heap.size w wr) => refFormed_any (T.mk 5 m s (x :: r)) (some ⟨bk, off, none⟩) cap wr (S_world (S_of hL).1 hb)
  rw [hz] at hd
  simp only [T.k, T.n, T.s, T.l, T.val, List.length_cons] at hr hd F0
  have hS0 : LiesS w w.heap.size (x :: r) (some ⟨bk, off, none⟩) cap := (S_of hL).1
  obtain ⟨A', c', hrun, hS⟩ := run_tail hS0
  obtain ⟨b', off', A1, c1, e1, hb, hl0, p0⟩ := S_at hS0 (j := 0) (by simp)
  cases e1
  clear hl0
  simp only [Nat.zero_mul, Nat.add_zero, List.getElem_cons_zero] at p0
  obtain ⟨_, p01, _, _⟩ := p0
  have hlen : r.length + 1 ≤ 140737488355328 := by obtain ⟨_, _, h2, _⟩ := hS0; simp at h2; omega
  have hlen56 : Hid ((r.length + 1) * 56 ≤ 140737488355328) := vers.lay (by obtain ⟨_, _, h2, _⟩ := hS0; simpa using h2)
  have d3 : (0 : Int) < (r.length : Int) + 1 := by omega
  have d1 : (x.n == 1) = true := by simp [hxn]
  have HN := vers.lay hnn
  have HRR := vers.lay hrr
  clear hn hL hz hxn hnn hrr hS0
  go_enter Tryz.func18, Tryz.ntmps18
  go_wp2_with fail
  refine (quotas.refRight_ok _ _ _ _ _ _ _ _ hk).mono ?_
  rintro z w1 ⟨rfl, hb1⟩
  have F1 := F0.next hb1
  clear F0 hb1
  obtain ⟨⟨⟨c0, c1, c2, c3, c4, c5, c6⟩, l1, l2, b1⟩, ⟨y0, y1, y2, y3⟩, k1⟩ := id F1
  have lk := k1.lt
  simp only [T.k, T.n, T.s] at y0 y1 y2
  go_wp2_with fail
  refine (hr _ b1).mono ?_
  rintro z w2 ⟨rfl, hb2⟩
  have F2 := F1.next hb2
  clear F1 hb2 c0 c1 c2 c3 c4 c5 c6 l1 l2 b1 y0 y1 y2 y3 k1 lk hr
  obtain ⟨⟨⟨c0, c1, c2, c3, c4, c5, c6⟩, l1, l2, b1⟩, ⟨y0, y1, y2, y3⟩, k1⟩ := id F2
  have lk := k1.lt
  simp only [T.k, T.n, T.s] at y0 y1 y2
  go_wp2_with fail
  refine (hd _ b1).mono ?_
  rintro z w3 ⟨rfl, hb3⟩
  have F3 := F2.next hb3
  clear F2 hb3 c0 c1 c2 c3 c4 c5 c6 l1 l2 b1 y0 y1 y2 y3 k1 lk hd
  obtain ⟨⟨⟨c0, c1, c2, c3, c4, c5, c6⟩, l1, l2, b1⟩, ⟨y0, y1, y2, y3⟩, k1⟩ := id F3
  have lk := k1.lt
  simp only [T.k, T.n, T.s] at y0 y1 y2
  have p03 : w3.cell? ⟨bk, off + 1, none⟩ = some (.int .u64 x.n) := (b1.cell hb).trans p01
  have hb3 : bk < w3.heap.size := Nat.lt_of_lt_of_le hb b1.size
  have D4 : Below w3.heap.size w3 (w3.alloc (.cells #[.bool true, .slice none 0 0, .slice none 0 0] 28)) := (Below.refl _ _).alloc (Nat.le_refl _) _
  have F4 := F3.next D4
  have N4 := Blk.new w3 28 #[.bool true, .slice none 0 0, .slice none 0 0]
  have H0 : FHdE w a b c d e f h m s x r bk off cap w3.heap.size (.int .i64 0) (w3.alloc (.cells #[.bool true, .slice none 0 0, .slice none 0 0] 28)) := ⟨0, _, [], Nat.zero_le _, rfl, F4, N4, OwnE.nil _ _, vers.lay rfl⟩
  clear D4 F4 N4
  have lk1 : w.heap.size + 1 < w3.heap.size := by omega
  go_wp2_with fail
  have hg : w.heap.size + 2 < w3.heap.size := lk
  clear c0 c1 c2 c3 c4 c5 c6 l1 l2 b1 y0 y1 y2 y3 k1 lk F3 lk1 hb3 p03
  generalize w3.heap.size = g at *
  go_loopw [35] (fun i wr => FHdE w a b c d e f h m s x r bk off cap g i wr) (fun i _ => r.length - (intOf i).toNat)
  case atStart => exact H0
  case round =>
    clear H0
    obtain ⟨j, u, es, hj, rfl, F5, kN, hO, hes⟩ := hrel
    obtain ⟨AX, nX, cX, rfl, hnX⟩ := hO.shape
    have lN := kN.lt
    have nb0 := kN.cell 0
    have nb1 := kN.cell 1
    have nb2 := kN.cell 2
    simp at nb0 nb1 nb2
    have bw := F5.below
    by_cases hlt : j < r.length
    · obtain ⟨b2, off2, A9, c9, rfl, hb2, hL9, p0, p1, p2, p3⟩ := S_at (S_keep hS bw) hlt
      have hvj := hall _ (List.getElem_mem hlt)
      have htk := vers.lay (map_take toEP r hlt)
      have j0 : (0 : Int) ≤ (j : Int) := by omega
      have hl56 : r[j].l.length ≤ 140737488355328 := by obtain ⟨_, _, h2, _⟩ := (S_of hL9).1; omega
      have D1 : Below wr.heap.size wr (wr.alloc (.cells #[.int .i64 r[j].k, .int .u64 r[j].n, .string r[j].s, .slice A9 r[j].l.length c9] 38)).drew := ((Below.refl _ _).alloc (Nat.le_refl _) _).drew
      have hS1 : LiesS (wr.alloc (.cells #[.int .i64 r[j].k, .int .u64 r[j].n, .string r[j].s, .slice A9 r[j].l.length c9] 38)).drew (wr.alloc (.cells #[.int .i64 r[j].k, .int .u64 r[j].n, .string r[j].s, .slice A9 r[j].l.length c9] 38)).drew.heap.size r[j].l A9 c9 := S_more (S_keep (S_more (S_of hL9).1 bw.size) D1) D1.size
      have hc := toEntry_any r[j] A9 c9 _ hS1 hvj
      have hfs : (toEP r[j]).1.size ≤ maxLen := by
        cases hl : r[j].l with
        | nil => unfold toEP; rw [hl]; exact Nat.zero_le _
        | cons y l2 =>
          have := (S_fits hS1 (x := y) (by rw [hl]; simp)).2
          unfold toEP; rw [hl]; exact this
      have hln : es.length = j := by have := congrArg List.length hes.out; simp at this; omega
      have hl40 : Hid ((es.length + 1) * 40 ≤ 140737488355328) := vers.lay (by have := hlen56.out; omega)
      generalize hy : toEP r[j] = y at hc hfs htk
      obtain ⟨s1, m1⟩ := y
      clear hy hS1 hL9 hvj
      generalize r[j].l.length = nl at *
      have hown0 : ∀ k, (Value.slice AX nX cX).ownBlock = some k → g + 1 ≤ k ∧ k < wr.heap.size := hO.own
      have hneE : some g ≠ (Value.slice AX nX cX).ownBlock := fun e => by have := hown0 _ e.symm; omega
      have hneX : some wr.heap.size ≠ (Value.slice AX nX cX).ownBlock := fun e => by have := hown0 _ e.symm; omega
      have xb := Blk.new wr 38 #[.int .i64 r[j].k, .int .u64 r[j].n, .string r[j].s, .slice A9 nl c9]
      have g0 : (wr.alloc (.cells #[.int .i64 r[j].k, .int .u64 r[j].n, .string r[j].s, .slice A9 nl c9] 38)).drew.cell? ⟨g, 1, none⟩ = some (.slice AX nX cX) := (D1.cell (by simpa using lN)).trans (kN.cell 1)
      have g1 : (wr.alloc (.cells #[.int .i64 r[j].k, .int .u64 r[j].n, .string r[j].s, .slice A9 nl c9] 38)).drew.cell? ⟨wr.heap.size, 0, none⟩ = some (.int .i64 r[j].k) := xb.cell 0
      have g2 : (wr.alloc (.cells #[.int .i64 r[j].k, .int .u64 r[j].n, .string r[j].s, .slice A9 nl c9] 38)).drew.cell? ⟨wr.heap.size, 1, none⟩ = some (.int .u64 r[j].n) := xb.cell 1
      have g3 : (wr.alloc (.cells #[.int .i64 r[j].k, .int .u64 r[j].n, .string r[j].s, .slice A9 nl c9] 38)).drew.cell? ⟨wr.heap.size, 2, none⟩ = some (.string r[j].s) := xb.cell 2
      have g4 : (wr.alloc (.cells #[.int .i64 r[j].k, .int .u64 r[j].n, .string r[j].s, .slice A9 nl c9] 38)).drew.cell? ⟨wr.heap.size, 3, none⟩ = some (.slice A9 nl c9) := xb.cell 3
      have l5 : g < (wr.alloc (.cells #[.int .i64 r[j].k, .int .u64 r[j].n, .string r[j].s, .slice A9 nl c9] 38)).drew.heap.size := Nat.lt_of_lt_of_le lN D1.size
      have l6 : wr.heap.size < (wr.alloc (.cells #[.int .i64 r[j].k, .int .u64 r[j].n, .string r[j].s, .slice A9 nl c9] 38)).drew.heap.size := by simp
      clear xb
      go_wp2_with fail
      refine mix.region_D (fun w' => w'.cell? ⟨g, 1, none⟩ = some (.slice AX nX cX) ∧ w'.cell? ⟨wr.heap.size, 0, none⟩ = some (.int .i64 r[j].k) ∧ w'.cell? ⟨wr.heap.size, 1, none⟩ = some (.int .u64 r[j].n) ∧ w'.cell? ⟨wr.heap.size, 2, none⟩ = some (.string r[j].s) ∧ w'.cell? ⟨wr.heap.size, 3, none⟩ = some (.slice A9 nl c9)) (fun j => j == 7) (by kernel_rfl) ?_
      refine mix.D_take (i := 0) (v := ?_) rfl (by kernel_rfl) (by kernel_rfl) (fun _ _ _ h => h) (Or.inl ⟨by rfl, ?_⟩) ⟨g0, g1, g2, g3, g4⟩ ?_
      rotate_left
      · intro w' hSw
        go_split_ands
        try simp only [List.getElem_toArray, List.getElem_cons_zero, List.getElem_cons_succ]
        go_simp
        exact rfl
      try simp only [Act.put, List.getElem_toArray, List.getElem_cons_zero, List.getElem_cons_succ, List.setIfInBounds_toArray, List.set_cons_zero, List.set_cons_succ]
      refine mix.D_take (i := 1) (v := ?_) rfl (by kernel_rfl) (by kernel_rfl) (fun _ _ _ h => h) (Or.inl ⟨by rfl, ?_⟩) ⟨g0, g1, g2, g3, g4⟩ ?_
      rotate_left
      · intro w' hSw
        go_split_ands
        try simp only [List.getElem_toArray, List.getElem_cons_zero, List.getElem_cons_succ]
        go_simp
        exact rfl
      try simp only [Act.put, List.getElem_toArray, List.getElem_cons_zero, List.getElem_cons_succ, List.setIfInBounds_toArray, List.set_cons_zero, List.set_cons_succ]
      refine mix.D_take (i := 2) (v := ?_) rfl (by kernel_rfl) (by kernel_rfl) (fun _ _ _ h => h) (Or.inl ⟨by rfl, ?_⟩) ⟨g0, g1, g2, g3, g4⟩ ?_
      rotate_left
      · intro w' hSw
        go_split_ands
        try simp only [List.getElem_toArray, List.getElem_cons_zero, List.getElem_cons_succ]
        go_simp
        exact rfl
      try simp only [Act.put, List.getElem_toArray, List.getElem_cons_zero, List.getElem_cons_succ, List.setIfInBounds_toArray, List.set_cons_zero, List.set_cons_succ]
      refine mix.D_op (k := 3) rfl rfl (by kernel_rfl) (fun K' hK => ?_)
      simp only [List.getElem_toArray, List.getElem_cons_zero, List.getElem_cons_succ]
      go_wp2_with fail
      refine hc.mono ?_
      rintro z w4 ⟨A2, c2, rfl, hH, hb4⟩
      simp only at hH
      generalize hml : m1.length = ml at *
      have HML := vers.lay hml
      clear hml
      have q0 := (hb4.cell (p := ⟨g, 1, none⟩) l5).trans g0
      have q1 := (hb4.cell (p := ⟨wr.heap.size, 0, none⟩) l6).trans g1
      have q2 := (hb4.cell (p := ⟨wr.heap.size, 1, none⟩) l6).trans g2
      have q3 := (hb4.cell (p := ⟨wr.heap.size, 2, none⟩) l6).trans g3
      have q4 := (hb4.cell (p := ⟨wr.heap.size, 3, none⟩) l6).trans g4
      have l7 : g < w4.heap.size := Nat.lt_of_lt_of_le l5 hb4.size
      have l8 : wr.heap.size < w4.heap.size := Nat.lt_of_lt_of_le l6 hb4.size
      have D5 := D1.trans (hb4.mono D1.size)
      have hO4 := hO.below D5
      have kN4 := kN.below D5 lN
      have hz4 := D5.size
      clear hO kN D1 g0 g1 g2 g3 g4 l5 l6 hc p0 p1 p2 p3 nb0 nb1 nb2
      go_wp2_with fail
      refine hK.out _ _ (fun _ => ⟨q0, q1, q2, q3, q4⟩) ?_
      clear hK K'
      try simp only [Act.put, List.setIfInBounds_toArray, List.set_cons_zero, List.set_cons_succ]
      refine mix.D_op (k := 4) rfl rfl (by kernel_rfl) (fun K' hK => ?_)
      simp only [List.getElem_toArray, List.getElem_cons_zero, List.getElem_cons_succ]
      go_wp2_with fail
      refine hK.out _ _ (fun _ => ⟨(World.cell?_alloc_lt _ _ _ l7).trans q0, (World.cell?_alloc_lt _ _ _ l8).trans q1, (World.cell?_alloc_lt _ _ _ l8).trans q2, (World.cell?_alloc_lt _ _ _ l8).trans q3, (World.cell?_alloc_lt _ _ _ l8).trans q4⟩) ?_
      clear hK K'
      try simp only [Act.put, List.setIfInBounds_toArray, List.set_cons_zero, List.set_cons_succ]
      refine mix.D_op (k := 5) rfl rfl (by kernel_rfl) (fun K' hK => ?_)
      simp only [List.getElem_toArray, List.getElem_cons_zero, List.getElem_cons_succ]
      have hml := HML.out
      subst hml
      refine wp_E (.tmp 42) (.tmp 45) rfl (y := ⟨s1, m1, A2, c2⟩) hO4 rfl (by omega) (hH.move (lo' := wr.heap.size + 1) (by simp) (Nat.le_refl _) (fun _ _ _ => rfl)) hfs (Nat.le_refl _) (by omega) (fun k hk => Nat.lt_succ_of_lt (hown0 k hk).2) (cs := #[.string s1, .slice A2 m1.length c2]) rfl rfl rfl hl40.out ?_
      intro v5 w5 hO5 hb5 hz5 hk5 hkeep
      obtain ⟨A5, n5, c5, rfl, hn5⟩ := hO5.shape
      have kN5 := hkeep _ _ _ (by decide) kN4
      have f1 := kN5.frozen 1
      have z1 : w5.cell? ⟨g, 1, none⟩ = some (.slice AX nX cX) := kN5.cell 1
      have r1 := (hk5 ⟨wr.heap.size, 0, none⟩ l8 hneX).trans q1
      have r2 := (hk5 ⟨wr.heap.size, 1, none⟩ l8 hneX).trans q2
      have r3 := (hk5 ⟨wr.heap.size, 2, none⟩ l8 hneX).trans q3
      have r4 := (hk5 ⟨wr.heap.size, 3, none⟩ l8 hneX).trans q4
      refine hK.out _ _ (fun _ => ⟨z1, r1, r2, r3, r4⟩) ?_
      clear hK K'
      try simp only [Act.put, List.setIfInBounds_toArray, List.set_cons_zero, List.set_cons_succ]
      refine mix.D_take (i := 6) (v := ?_) rfl (by kernel_rfl) (by kernel_rfl) (fun _ _ _ h => h) (Or.inl ⟨by rfl, ?_⟩) ⟨z1, r1, r2, r3, r4⟩ ?_
      rotate_left
      · intro w' hSw
        go_split_ands
        try simp only [List.getElem_toArray, List.getElem_cons_zero, List.getElem_cons_succ]
        go_simp
        exact rfl
      try simp only [Act.put, List.getElem_toArray, List.getElem_cons_zero, List.getElem_cons_succ, List.setIfInBounds_toArray, List.set_cons_zero, List.set_cons_succ]
      refine mix.D_op (k := 7) rfl rfl (by kernel_rfl) (fun K' hK => ?_)
      simp only [List.getElem_toArray, List.getElem_cons_zero, List.getElem_cons_succ]
      have lN5 := kN5.lt
      have Dg : Below g wr w5 := (D5.mono (by omega)).trans (hb5.mono (by omega))
      clear hk5 hkeep hb5 q0 q1 q2 q3 q4 r1 r2 r3 r4 kN4 hO4
      go_wp2_with fail
      refine hK.out _ _ (fun h => by simp at h) ?_
      clear hK K'
      refine mix.D_done (by kernel_rfl) ?_ _
      go_wp2_with fail
      refine ⟨⟨j + 1, .slice A5 n5 c5, _, hlt, by go_num, F5.far hg (by simp; omega) (Dg.setCell (Nat.le_refl _) _), by simpa using kN5.put 1 (.slice A5 n5 c5), OwnE.setCell hO5 (Nat.lt_succ_self _) _, vers.lay ?_⟩, by simp [intOf]; omega⟩
      rw [List.map_append, hes.out, htk.out]
      rfl
    · rw [List.take_of_length_le (by omega)] at hes
      obtain ⟨A6, c6', e6, hH⟩ := OwnE.hes hO
      have hr6 : Es wr wr.heap.size es A6 c6' := hH _ _ (Nat.le_refl _) (fun _ _ _ => rfl)
      have hc := refNode_any a b c d e f h true es [] A6 c6' none 0 wr hr6 (HKs.nil wr wr.heap.size wr.heap.size wr wr.heap.size (Nat.le_refl _) (fun _ _ _ => rfl))
      rw [ndP_of, hes.out, HN.out] at hc
      have HX := vers.lay hH
      injection e6 with e61 e62 e63
      subst e61
      subst e63
      rw [← e62] at hc
      have HE62 := vers.lay e62
      clear hr6 hH hO e62
      simp only [List.length_nil] at hc
      obtain ⟨⟨⟨c0, c1, c2, c3, c4, c5, c6⟩, l1, l2, b1⟩, ⟨y0, y1, y2, y3⟩, k1⟩ := id F5
      have lk := k1.lt
      simp only [T.k, T.n, T.s] at y0 y1 y2
      by_cases hn0 : n = 0
      · have e1 : (n != 0) = false := by simp [hn0]
        have HRR2 := vers.lay (HRR.out.symm.trans (if_neg (by simpa using hn0)))
        clear HRR
        subst hn0
        go_wp2_with fail
        refine hc.mono ?_
        rintro z w5 ⟨rfl, hb5⟩
        have F6 := F5.next hb5
        have kN5 := kN.below hb5 lN
        have hz5 := hb5.size
        clear F5 kN c0 c1 c2 c3 c4 c5 c6 l1 l2 b1 y0 y1 y2 y3 k1 lk hc nb0 nb1 nb2
        obtain ⟨⟨⟨c0, c1, c2, c3, c4, c5, c6⟩, l1, l2, b1⟩, ⟨y0, y1, y2, y3⟩, k1⟩ := id F6
        have lk := k1.lt
        have n0 := kN5.cell 0
        have n1 := kN5.cell 1
        have n2 := kN5.cell 2
        simp at n0 n1 n2
        have z0 := k1.cell 0
        have z1 := k1.cell 1
        have z2 := k1.cell 2
        simp at z0 z1 z2
        have f0 := k1.frozen 0
        have f1 := k1.frozen 1
        have f2 := k1.frozen 2
        go_wp2_with fail
        refine bodyPost_ret (v := .tuple #[.agg #[.bool true, .slice AX nX cX, .slice none 0 0], .int .i64 0]) (by simp [results, Tryz.results18, go_sem, z0, z1, z2]) rfl ?_
        rw [HRR2.out]
        refine ⟨three_below b1 (by omega) _ _ _, es, AX, cX, none, 0, by rw [HE62.out]; rfl, hes.out, HX.out.move (by omega) (by simp; omega) ?_, HKs.nil _ _ _⟩
        intro p p1 p2
        rw [three_cell _ _ _ _ _ p (by omega), hb5.cell p2]
      · have e1 : (n != 0) = true := by simpa using hn0
        have HRR2 := vers.lay (HRR.out.symm.trans (if_pos hn0))
        clear HRR hn0
        go_wp2_with fail
        refine hc.mono ?_
        rintro z w5 ⟨rfl, hb5⟩
        have F6 := F5.next hb5
        clear F5 c0 c1 c2 c3 c4 c5 c6 l1 l2 b1 y0 y1 y2 y3 k1 lk hc nb0 nb1 nb2
        obtain ⟨⟨⟨c0, c1, c2, c3, c4, c5, c6⟩, l1, l2, b1⟩, ⟨y0, y1, y2, y3⟩, k1⟩ := id F6
        have lk := k1.lt
        have z0 := k1.cell 0
        have z1 := k1.cell 1
        have z2 := k1.cell 2
        simp at z0 z1 z2
        have f0 := k1.frozen 0
        have f1 := k1.frozen 1
        have f2 := k1.frozen 2
        go_wp2_with fail
        refine bodyPost_ret (v := .tuple #[.agg #[.bool false, .slice none 0 0, .slice none 0 0], .int .i64 n]) (by simp [results, Tryz.results18, go_sem, z0, z1, z2]) rfl ?_
        rw [HRR2.out]
        exact NAns.bad _ (three_below b1 (by omega) _ _ _)

/-- a round's head of From -/
def FHdK (w : World) (a b c d e f h : Int) (m : Int) (s : ByteArray) (x : T) (r : List T) (bk off cap g : Nat) (i : Value) (wr : World) : Prop := ∃ (j : Nat) (u : Value), j ≤ r.length ∧ i = .int .i64 j ∧ Fx w a b c d e f h (T.mk 5 m s (x :: r)) (.slice (some ⟨bk, off, none⟩) (r.length + 1) cap) wr ∧ Blk wr g 28 #[.bool false, .slice none 0 0, u] ∧ OwnK (g + 1) wr ((r.take j).map toK) u

set_option maxRecDepth 100000 in
set_option maxHeartbeats 1000000 in
theorem refFrom_inner (a b c d e f h : Int) (m : Int) (s : ByteArray) (x : T) (r : List T) (bk off cap : Nat) (w : World) (hL : Lies w w.heap.size (T.mk 5 m s (x :: r)) (.slice (some ⟨bk, off, none⟩) (r.length + 1) cap)) (hk : ok a b c d e f h) (hn : (T.mk 5 m s (x :: r)).right = 0) (hz : nodB (T.mk 5 m s (x :: r)) = true) (hxn : x.n = 2) (hall : ∀ y ∈ r, kidB y = true)
    (n : Int) (hnn : ndP a b c d e f h (false, [], r.map toK) = n) (rr : P3 × Int) (hrr : (if n ≠ 0 then (zN, n) else ((false, [], r.map toK), 0)) = rr) :
    Calls Tryz.prog 18 #[.agg #[.int .i64 a, .int .i64 b, .int .i64 c, .int .i64 d, .int .i64 e, .int .i64 f, .int .i64 h], .agg #[.int .i64 5, .int .u64 m, .string s, .slice (some ⟨bk, off, none⟩) (r.length + 1) cap]] w (NAns w rr) := by
  have F0 := Fx.new w a b c d e f h (T.mk 5 m s (x :: r)) (.slice (some ⟨bk, off, none⟩) (r.length + 1) cap)
  have hr := fun wr (hb : Below w.heap.size w wr) => rights.refRight_any (T.mk 5 m s (x :: r)) _ wr ((Lies.below hL hb).now hb.size)
  rw [hn] at hr
  have hd := fun wr (hb : Below w.heap.size w wr) => refFormed_any (T.mk 5 m s (x :: r)) (some ⟨bk, off, none⟩) cap wr (S_world (S_of hL).1 hb)
  rw [hz] at hd
  simp only [T.k, T.n, T.s, T.l, T.val, List.length_cons] at hr hd F0
  have hS0 : LiesS w w.heap.size (x :: r) (some ⟨bk, off, none⟩) cap := (S_of hL).1
  obtain ⟨A', c', hrun, hS⟩ := run_tail hS0
  obtain ⟨b', off', A1, c1, e1, hb, hl0, p0⟩ := S_at hS0 (j := 0) (by simp)
  cases e1
  clear hl0
  simp only [Nat.zero_mul, Nat.add_zero, List.getElem_cons_zero] at p0
  obtain ⟨_, p01, _, _⟩ := p0
  have hlen : r.length + 1 ≤ 140737488355328 := by obtain ⟨_, _, h2, _⟩ := hS0; simp at h2; omega
  have hlen56 : Hid ((r.length + 1) * 56 ≤ 140737488355328) := vers.lay (by obtain ⟨_, _, h2, _⟩ := hS0; simpa using h2)
  have d3 : (0 : Int) < (r.length : Int) + 1 := by omega
  have d1 : (x.n == 1) = false := by simp [hxn]
  have HN := vers.lay hnn
  have HRR := vers.lay hrr
  clear hn hL hz hxn hnn hrr hS0
  go_enter Tryz.func18, Tryz.ntmps18
  go_wp2_with fail
  refine (quotas.refRight_ok _ _ _ _ _ _ _ _ hk).mono ?_
  rintro z w1 ⟨rfl, hb1⟩
  have F1 := F0.next hb1
  clear F0 hb1
  obtain ⟨⟨⟨c0, c1, c2, c3, c4, c5, c6⟩, l1, l2, b1⟩, ⟨y0, y1, y2, y3⟩, k1⟩ := id F1
  have lk := k1.lt
  simp only [T.k, T.n, T.s] at y0 y1 y2
  go_wp2_with fail
  refine (hr _ b1).mono ?_
  rintro z w2 ⟨rfl, hb2⟩
  have F2 := F1.next hb2
  clear F1 hb2 c0 c1 c2 c3 c4 c5 c6 l1 l2 b1 y0 y1 y2 y3 k1 lk hr
  obtain ⟨⟨⟨c0, c1, c2, c3, c4, c5, c6⟩, l1, l2, b1⟩, ⟨y0, y1, y2, y3⟩, k1⟩ := id F2
  have lk := k1.lt
  simp only [T.k, T.n, T.s] at y0 y1 y2
  go_wp2_with fail
  refine (hd _ b1).mono ?_
  rintro z w3 ⟨rfl, hb3⟩
  have F3 := F2.next hb3
  clear F2 hb3 c0 c1 c2 c3 c4 c5 c6 l1 l2 b1 y0 y1 y2 y3 k1 lk hd
  obtain ⟨⟨⟨c0, c1, c2, c3, c4, c5, c6⟩, l1, l2, b1⟩, ⟨y0, y1, y2, y3⟩, k1⟩ := id F3
  have lk := k1.lt
  simp only [T.k, T.n, T.s] at y0 y1 y2
  have p03 : w3.cell? ⟨bk, off + 1, none⟩ = some (.int .u64 x.n) := (b1.cell hb).trans p01
  have hb3 : bk < w3.heap.size := Nat.lt_of_lt_of_le hb b1.size
  have D4 : Below w3.heap.size w3 (w3.alloc (.cells #[.bool false, .slice none 0 0, .slice none 0 0] 28)) := (Below.refl _ _).alloc (Nat.le_refl _) _
  have F4 := F3.next D4
  have N4 := Blk.new w3 28 #[.bool false, .slice none 0 0, .slice none 0 0]
  have H0 : FHdK w a b c d e f h m s x r bk off cap w3.heap.size (.int .i64 0) (w3.alloc (.cells #[.bool false, .slice none 0 0, .slice none 0 0] 28)) := ⟨0, _, Nat.zero_le _, rfl, F4, N4, OwnK.nil _ _⟩
  clear D4 F4 N4
  have lk1 : w.heap.size + 1 < w3.heap.size := by omega
  go_wp2_with fail
  have hg : w.heap.size + 2 < w3.heap.size := lk
  clear c0 c1 c2 c3 c4 c5 c6 l1 l2 b1 y0 y1 y2 y3 k1 lk F3 lk1 hb3 p03
  generalize w3.heap.size = g at *
  go_loopw [35] (fun i wr => FHdK w a b c d e f h m s x r bk off cap g i wr) (fun i _ => r.length - (intOf i).toNat)
  case atStart => exact H0
  case round =>
    clear H0
    obtain ⟨j, u, hj, rfl, F5, kN, hO⟩ := hrel
    obtain ⟨AX, nX, cX, rfl, hnX⟩ := hO.shape
    have lN := kN.lt
    have nb0 := kN.cell 0
    have nb1 := kN.cell 1
    have nb2 := kN.cell 2
    simp at nb0 nb1 nb2
    have bw := F5.below
    by_cases hlt : j < r.length
    · obtain ⟨b2, off2, A9, c9, rfl, hb2, hL9, p0, p1, p2, p3⟩ := S_at (S_keep hS bw) hlt
      have hvj := hall _ (List.getElem_mem hlt)
      have htk := vers.lay (map_take toK r hlt)
      have j0 : (0 : Int) ≤ (j : Int) := by omega
      have hl56 : r[j].l.length ≤ 140737488355328 := by obtain ⟨_, _, h2, _⟩ := (S_of hL9).1; omega
      have D1 : Below wr.heap.size wr (wr.alloc (.cells #[.int .i64 r[j].k, .int .u64 r[j].n, .string r[j].s, .slice A9 r[j].l.length c9] 38)).drew := ((Below.refl _ _).alloc (Nat.le_refl _) _).drew
      have hS1 : LiesS (wr.alloc (.cells #[.int .i64 r[j].k, .int .u64 r[j].n, .string r[j].s, .slice A9 r[j].l.length c9] 38)).drew (wr.alloc (.cells #[.int .i64 r[j].k, .int .u64 r[j].n, .string r[j].s, .slice A9 r[j].l.length c9] 38)).drew.heap.size r[j].l A9 c9 := S_more (S_keep (S_more (S_of hL9).1 bw.size) D1) D1.size
      have hc := toKid_any r[j] A9 c9 _ hS1 hvj
      have hfy := toK_fits hS1 hvj
      have hl48 : Hid ((((r.take j).map toK).length + 1) * 48 ≤ 140737488355328) := vers.lay (by have := hlen56.out; rw [List.length_map, List.length_take]; omega)
      generalize hy : toK r[j] = y at hc hfy htk
      clear hy hS1 hL9 hvj
      generalize r[j].l.length = nl at *
      have hown0 : ∀ k, (Value.slice AX nX cX).ownBlock = some k → g + 1 ≤ k ∧ k < wr.heap.size := hO.own
      have hneE : some g ≠ (Value.slice AX nX cX).ownBlock := fun e => by have := hown0 _ e.symm; omega
      have hneX : some wr.heap.size ≠ (Value.slice AX nX cX).ownBlock := fun e => by have := hown0 _ e.symm; omega
      have xb := Blk.new wr 38 #[.int .i64 r[j].k, .int .u64 r[j].n, .string r[j].s, .slice A9 nl c9]
      have g0 : (wr.alloc (.cells #[.int .i64 r[j].k, .int .u64 r[j].n, .string r[j].s, .slice A9 nl c9] 38)).drew.cell? ⟨g, 2, none⟩ = some (.slice AX nX cX) := (D1.cell (by simpa using lN)).trans (kN.cell 2)
      have g1 : (wr.alloc (.cells #[.int .i64 r[j].k, .int .u64 r[j].n, .string r[j].s, .slice A9 nl c9] 38)).drew.cell? ⟨wr.heap.size, 0, none⟩ = some (.int .i64 r[j].k) := xb.cell 0
      have g2 : (wr.alloc (.cells #[.int .i64 r[j].k, .int .u64 r[j].n, .string r[j].s, .slice A9 nl c9] 38)).drew.cell? ⟨wr.heap.size, 1, none⟩ = some (.int .u64 r[j].n) := xb.cell 1
      have g3 : (wr.alloc (.cells #[.int .i64 r[j].k, .int .u64 r[j].n, .string r[j].s, .slice A9 nl c9] 38)).drew.cell? ⟨wr.heap.size, 2, none⟩ = some (.string r[j].s) := xb.cell 2
      have g4 : (wr.alloc (.cells #[.int .i64 r[j].k, .int .u64 r[j].n, .string r[j].s, .slice A9 nl c9] 38)).drew.cell? ⟨wr.heap.size, 3, none⟩ = some (.slice A9 nl c9) := xb.cell 3
      have l5 : g < (wr.alloc (.cells #[.int .i64 r[j].k, .int .u64 r[j].n, .string r[j].s, .slice A9 nl c9] 38)).drew.heap.size := Nat.lt_of_lt_of_le lN D1.size
      have l6 : wr.heap.size < (wr.alloc (.cells #[.int .i64 r[j].k, .int .u64 r[j].n, .string r[j].s, .slice A9 nl c9] 38)).drew.heap.size := by simp
      clear xb
      go_wp2_with fail
      refine mix.region_D (fun w' => w'.cell? ⟨g, 2, none⟩ = some (.slice AX nX cX) ∧ w'.cell? ⟨wr.heap.size, 0, none⟩ = some (.int .i64 r[j].k) ∧ w'.cell? ⟨wr.heap.size, 1, none⟩ = some (.int .u64 r[j].n) ∧ w'.cell? ⟨wr.heap.size, 2, none⟩ = some (.string r[j].s) ∧ w'.cell? ⟨wr.heap.size, 3, none⟩ = some (.slice A9 nl c9)) (fun j => j == 7) (by kernel_rfl) ?_
      refine mix.D_take (i := 0) (v := ?_) rfl (by kernel_rfl) (by kernel_rfl) (fun _ _ _ h => h) (Or.inl ⟨by rfl, ?_⟩) ⟨g0, g1, g2, g3, g4⟩ ?_
      rotate_left
      · intro w' hSw
        go_split_ands
        try simp only [List.getElem_toArray, List.getElem_cons_zero, List.getElem_cons_succ]
        go_simp
        exact rfl
      try simp only [Act.put, List.getElem_toArray, List.getElem_cons_zero, List.getElem_cons_succ, List.setIfInBounds_toArray, List.set_cons_zero, List.set_cons_succ]
      refine mix.D_take (i := 1) (v := ?_) rfl (by kernel_rfl) (by kernel_rfl) (fun _ _ _ h => h) (Or.inl ⟨by rfl, ?_⟩) ⟨g0, g1, g2, g3, g4⟩ ?_
      rotate_left
      · intro w' hSw
        go_split_ands
        try simp only [List.getElem_toArray, List.getElem_cons_zero, List.getElem_cons_succ]
        go_simp
        exact rfl
      try simp only [Act.put, List.getElem_toArray, List.getElem_cons_zero, List.getElem_cons_succ, List.setIfInBounds_toArray, List.set_cons_zero, List.set_cons_succ]
      refine mix.D_take (i := 2) (v := ?_) rfl (by kernel_rfl) (by kernel_rfl) (fun _ _ _ h => h) (Or.inl ⟨by rfl, ?_⟩) ⟨g0, g1, g2, g3, g4⟩ ?_
      rotate_left
      · intro w' hSw
        go_split_ands
        try simp only [List.getElem_toArray, List.getElem_cons_zero, List.getElem_cons_succ]
        go_simp
        exact rfl
      try simp only [Act.put, List.getElem_toArray, List.getElem_cons_zero, List.getElem_cons_succ, List.setIfInBounds_toArray, List.set_cons_zero, List.set_cons_succ]
      refine mix.D_op (k := 3) rfl rfl (by kernel_rfl) (fun K' hK => ?_)
      simp only [List.getElem_toArray, List.getElem_cons_zero, List.getElem_cons_succ]
      go_wp2_with fail
      refine hc.mono ?_
      rintro z w4 ⟨rfl, hb4⟩
      have q0 := (hb4.cell (p := ⟨g, 2, none⟩) l5).trans g0
      have q1 := (hb4.cell (p := ⟨wr.heap.size, 0, none⟩) l6).trans g1
      have q2 := (hb4.cell (p := ⟨wr.heap.size, 1, none⟩) l6).trans g2
      have q3 := (hb4.cell (p := ⟨wr.heap.size, 2, none⟩) l6).trans g3
      have q4 := (hb4.cell (p := ⟨wr.heap.size, 3, none⟩) l6).trans g4
      have l7 : g < w4.heap.size := Nat.lt_of_lt_of_le l5 hb4.size
      have l8 : wr.heap.size < w4.heap.size := Nat.lt_of_lt_of_le l6 hb4.size
      have D5 := D1.trans (hb4.mono D1.size)
      have hO4 := hO.below D5
      have kN4 := kN.below D5 lN
      have hz4 := D5.size
      clear hO kN D1 g0 g1 g2 g3 g4 l5 l6 hc p0 p1 p2 p3 nb0 nb1 nb2
      go_wp2_with fail
      refine hK.out _ _ (fun _ => ⟨q0, q1, q2, q3, q4⟩) ?_
      clear hK K'
      try simp only [Act.put, List.setIfInBounds_toArray, List.set_cons_zero, List.set_cons_succ]
      refine mix.D_op (k := 4) rfl rfl (by kernel_rfl) (fun K' hK => ?_)
      simp only [List.getElem_toArray, List.getElem_cons_zero, List.getElem_cons_succ]
      go_wp2_with fail
      refine hK.out _ _ (fun _ => ⟨(World.cell?_alloc_lt _ _ _ l7).trans q0, (World.cell?_alloc_lt _ _ _ l8).trans q1, (World.cell?_alloc_lt _ _ _ l8).trans q2, (World.cell?_alloc_lt _ _ _ l8).trans q3, (World.cell?_alloc_lt _ _ _ l8).trans q4⟩) ?_
      clear hK K'
      try simp only [Act.put, List.setIfInBounds_toArray, List.set_cons_zero, List.set_cons_succ]
      refine mix.D_op (k := 5) rfl rfl (by kernel_rfl) (fun K' hK => ?_)
      simp only [List.getElem_toArray, List.getElem_cons_zero, List.getElem_cons_succ]
      refine wp_K (.tmp 49) (.tmp 52) rfl hO4 rfl (by omega) hfy (cs := #[.string y.s, .int .u64 (y.k : Int), .int .i64 y.g, .int .i64 y.o, .int .i64 y.n]) rfl rfl rfl hl48.out ?_
      intro v5 w5 hO5 hb5 hz5 hk5 hkeep
      obtain ⟨A5, n5, c5, rfl, hn5⟩ := hO5.shape
      have kN5 := hkeep _ _ _ (by decide) kN4
      have f1 := kN5.frozen 2
      have z1 : w5.cell? ⟨g, 2, none⟩ = some (.slice AX nX cX) := kN5.cell 2
      have r1 := (hk5 ⟨wr.heap.size, 0, none⟩ l8 hneX).trans q1
      have r2 := (hk5 ⟨wr.heap.size, 1, none⟩ l8 hneX).trans q2
      have r3 := (hk5 ⟨wr.heap.size, 2, none⟩ l8 hneX).trans q3
      have r4 := (hk5 ⟨wr.heap.size, 3, none⟩ l8 hneX).trans q4
      refine hK.out _ _ (fun _ => ⟨z1, r1, r2, r3, r4⟩) ?_
      clear hK K'
      try simp only [Act.put, List.setIfInBounds_toArray, List.set_cons_zero, List.set_cons_succ]
      refine mix.D_take (i := 6) (v := ?_) rfl (by kernel_rfl) (by kernel_rfl) (fun _ _ _ h => h) (Or.inl ⟨by rfl, ?_⟩) ⟨z1, r1, r2, r3, r4⟩ ?_
      rotate_left
      · intro w' hSw
        go_split_ands
        try simp only [List.getElem_toArray, List.getElem_cons_zero, List.getElem_cons_succ]
        go_simp
        exact rfl
      try simp only [Act.put, List.getElem_toArray, List.getElem_cons_zero, List.getElem_cons_succ, List.setIfInBounds_toArray, List.set_cons_zero, List.set_cons_succ]
      refine mix.D_op (k := 7) rfl rfl (by kernel_rfl) (fun K' hK => ?_)
      simp only [List.getElem_toArray, List.getElem_cons_zero, List.getElem_cons_succ]
      have lN5 := kN5.lt
      have Dg : Below g wr w5 := (D5.mono (by omega)).trans (hb5.mono (by omega))
      clear hk5 hkeep hb5 q0 q1 q2 q3 q4 r1 r2 r3 r4 kN4 hO4
      go_wp2_with fail
      refine hK.out _ _ (fun h => by simp at h) ?_
      clear hK K'
      refine mix.D_done (by kernel_rfl) ?_ _
      go_wp2_with fail
      refine ⟨⟨j + 1, .slice A5 n5 c5, hlt, by go_num, F5.far hg (by simp; omega) (Dg.setCell (Nat.le_refl _) _), by simpa using kN5.put 2 (.slice A5 n5 c5), ?_⟩, by simp [intOf]; omega⟩
      rw [htk.out]
      exact OwnK.setCell hO5 (Nat.lt_succ_self _) _
    · rw [List.take_of_length_le (by omega)] at hO
      obtain ⟨A6, c6', e6, hH⟩ := OwnK.hks hO
      have hr6 : Ks wr wr.heap.size (r.map toK) A6 c6' := hH _ _ (Nat.le_refl _) (fun _ _ _ => rfl)
      have hc := refNode_any a b c d e f h false [] (r.map toK) none 0 A6 c6' wr (HEs.nil wr wr.heap.size wr.heap.size wr wr.heap.size (Nat.le_refl _) (fun _ _ _ => rfl)) hr6
      rw [ndP_of, show (([] : List E).map pe) = [] from rfl, HN.out] at hc
      have HX := vers.lay hH
      injection e6 with e61 e62 e63
      subst e61
      subst e63
      rw [← e62] at hc
      have HE62 := vers.lay e62
      clear hr6 hH hO e62
      simp only [List.length_nil] at hc
      obtain ⟨⟨⟨c0, c1, c2, c3, c4, c5, c6⟩, l1, l2, b1⟩, ⟨y0, y1, y2, y3⟩, k1⟩ := id F5
      have lk := k1.lt
      simp only [T.k, T.n, T.s] at y0 y1 y2
      by_cases hn0 : n = 0
      · have e1 : (n != 0) = false := by simp [hn0]
        have HRR2 := vers.lay (HRR.out.symm.trans (if_neg (by simpa using hn0)))
        clear HRR
        subst hn0
        go_wp2_with fail
        refine hc.mono ?_
        rintro z w5 ⟨rfl, hb5⟩
        have F6 := F5.next hb5
        have kN5 := kN.below hb5 lN
        have hz5 := hb5.size
        clear F5 kN c0 c1 c2 c3 c4 c5 c6 l1 l2 b1 y0 y1 y2 y3 k1 lk hc nb0 nb1 nb2
        obtain ⟨⟨⟨c0, c1, c2, c3, c4, c5, c6⟩, l1, l2, b1⟩, ⟨y0, y1, y2, y3⟩, k1⟩ := id F6
        have lk := k1.lt
        have n0 := kN5.cell 0
        have n1 := kN5.cell 1
        have n2 := kN5.cell 2
        simp at n0 n1 n2
        have z0 := k1.cell 0
        have z1 := k1.cell 1
        have z2 := k1.cell 2
        simp at z0 z1 z2
        have f0 := k1.frozen 0
        have f1 := k1.frozen 1
        have f2 := k1.frozen 2
        go_wp2_with fail
        refine bodyPost_ret (v := .tuple #[.agg #[.bool false, .slice none 0 0, .slice AX nX cX], .int .i64 0]) (by simp [results, Tryz.results18, go_sem, z0, z1, z2]) rfl ?_
        rw [HRR2.out]
        refine ⟨three_below b1 (by omega) _ _ _, [], none, 0, AX, cX, by rw [HE62.out]; rfl, rfl, HEs.nil _ _ _, HX.out.move (by omega) (by simp; omega) ?_⟩
        intro p p1 p2
        rw [three_cell _ _ _ _ _ p (by omega), hb5.cell p2]
      · have e1 : (n != 0) = true := by simpa using hn0
        have HRR2 := vers.lay (HRR.out.symm.trans (if_pos hn0))
        clear HRR hn0
        go_wp2_with fail
        refine hc.mono ?_
        rintro z w5 ⟨rfl, hb5⟩
        have F6 := F5.next hb5
        clear F5 c0 c1 c2 c3 c4 c5 c6 l1 l2 b1 y0 y1 y2 y3 k1 lk hc nb0 nb1 nb2
        obtain ⟨⟨⟨c0, c1, c2, c3, c4, c5, c6⟩, l1, l2, b1⟩, ⟨y0, y1, y2, y3⟩, k1⟩ := id F6
        have lk := k1.lt
        have z0 := k1.cell 0
        have z1 := k1.cell 1
        have z2 := k1.cell 2
        simp at z0 z1 z2
        have f0 := k1.frozen 0
        have f1 := k1.frozen 1
        have f2 := k1.frozen 2
        go_wp2_with fail
        refine bodyPost_ret (v := .tuple #[.agg #[.bool false, .slice none 0 0, .slice none 0 0], .int .i64 n]) (by simp [results, Tryz.results18, go_sem, z0, z1, z2]) rfl ?_
        rw [HRR2.out]
        exact NAns.bad _ (three_below b1 (by omega) _ _ _)

theorem refFrom_any (a b c d e f h : Int) (t : T) (A : Option Addr) (cap : Nat) (w : World) (hL : Lies w w.heap.size t (.slice A t.l.length cap)) :
    Calls Tryz.prog 18 #[.agg #[.int .i64 a, .int .i64 b, .int .i64 c, .int .i64 d, .int .i64 e, .int .i64 f, .int .i64 h], .agg #[.int .i64 t.k, .int .u64 t.n, .string t.s, .slice A t.l.length cap]] w (NAns w (fromP a b c d e f h t)) := by
  unfold fromP
  by_cases hk : ok a b c d e f h
  · rw [if_pos hk]
    by_cases hr : t.right = 0
    · rw [if_neg (by simpa using hr)]
      cases hb : nodB t with
      | true =>
        rw [if_pos rfl]
        cases hh : headB t 1 with
        | false => rw [nodB_head hh] at hb; cases hb
        | true =>
          obtain ⟨m, s, x, r, rfl, hx⟩ := headB_shape hh
          obtain ⟨b', off', A1, c1, e1, _, _, _⟩ := S_at (S_of hL).1 (j := 0) (by simp [T.l])
          cases e1
          have hb2 := hb
          rw [nodB_yes m s r hx] at hb2
          rw [nodeP_yes]
          by_cases h1 : x.n = 1
          · rw [if_pos h1] at hb2 ⊢
            exact refFrom_leaf a b c d e f h m s x r b' off' cap w hL hk hr hb h1 (List.all_eq_true.1 hb2) _ rfl _ rfl
          · rw [if_neg h1] at hb2 ⊢
            by_cases h2 : x.n = 2
            · rw [if_pos h2] at hb2
              exact refFrom_inner a b c d e f h m s x r b' off' cap w hL hk hr hb h2 (List.all_eq_true.1 hb2) _ rfl _ rfl
            · rw [if_neg h2] at hb2; cases hb2
      | false =>
        rw [if_neg (by simp)]
        exact refFrom_bad3 a b c d e f h t A cap w hL hk hr hb
    · rw [if_pos hr]
      exact refFrom_bad2 a b c d e f h t A cap w hL hk _ rfl hr
  · rw [if_neg hk]
    exact refFrom_bad1 a b c d e f h t A _ cap w hk

end Go.Proofs.YtanfjnahdnafnaaGreat.nodes
