/- What package node's own From answers: the caller's own. -/
import Derived.Test.YtnkfboplafckoaaNeM
import Derived.Test.YtnkfboplafckoaaNdW


namespace Go.Proofs.Ytnkfboplafckoaa.nodes
set_option linter.unusedVariables false
set_option linter.unusedSimpArgs false
open Go.RowKit Go.Proofs.Ytnkfboplafckoaa.base Go.Proofs.Ytnkfboplafckoaa.quotas Go.Proofs.Ytnkfboplafckoaa.vers Go.Proofs.Ytnkfboplafckoaa.tm Go.Proofs.Ytnkfboplafckoaa.lies Go.Proofs.Ytnkfboplafckoaa.copies Go.Proofs.Ytnkfboplafckoaa.makes Go.Proofs.Ytnkfboplafckoaa.trees

theorem three_heap (w : World) (g : Nat) (u v x : Value) (k : Nat) (h : k ≠ g) : (((w.setCell ⟨g, 0, none⟩ u).setCell ⟨g, 1, none⟩ v).setCell ⟨g, 2, none⟩ x).heap[k]? = w.heap[k]? := by
  rw [Below.heap_setCell _ _ _ _ (by simpa using h), Below.heap_setCell _ _ _ _ (by simpa using h), Below.heap_setCell _ _ _ _ (by simpa using h)]

/-- what a call leaves that answers a node made anew and an error -/
def NAnso (w : World) (r : P3 × Int) (e : Ending) (w' : World) : Prop := Below w.heap.size w w' ∧ ∃ es A c Q m, e = .returned (.tuple #[.agg #[.bool r.1.1, .slice A es.length c, .slice Q r.1.2.2.length m], .int .i64 r.2]) ∧ es.map pe = r.1.2.1 ∧ HEo w' w.heap.size w'.heap.size es A c ∧ HKo w' w.heap.size w'.heap.size r.1.2.2 Q m
theorem NAnso.bad {w w' : World} (n : Int) (hb : Below w.heap.size w w') : NAnso w (zN, n) (.returned (.tuple #[.agg #[.bool false, .slice none 0 0, .slice none 0 0], .int .i64 n])) w' := ⟨hb, [], none, 0, none, 0, rfl, rfl, HEo.nil _ _ _, HKo.nil _ _ _⟩
set_option maxRecDepth 100000 in
set_option maxHeartbeats 1000000 in
theorem fromo_bad1 (a b c d e f h : Int) (t : T) (A : Option Addr) (nl cap : Nat) (w : World) (hk : ¬ ok a b c d e f h) :
    Calls Try.prog 30 #[.agg #[.int .i64 a, .int .i64 b, .int .i64 c, .int .i64 d, .int .i64 e, .int .i64 f, .int .i64 h], .agg #[.int .i64 t.k, .int .u64 t.n, .string t.s, .slice A nl cap]] w (NAnso w (zN, 40)) := by
  have F0 := Fx.new w a b c d e f h t (.slice A nl cap)
  go_enter Try.func30, Try.ntmps30
  go_wp2_with fail
  refine (quotas.right_no _ _ _ _ _ _ _ _ hk).mono ?_
  rintro x w1 ⟨rfl, hb1⟩
  have F1 := F0.next hb1
  clear F0 hb1
  obtain ⟨⟨⟨c0, c1, c2, c3, c4, c5, c6⟩, l1, l2, b1⟩, ⟨y0, y1, y2, y3⟩, k1⟩ := id F1
  have lk := k1.lt
  have z0 := k1.cell 0
  have z1 := k1.cell 1
  have z2 := k1.cell 2
  simp at z0 z1 z2
  have f0 := k1.frozen 0
  have f1 := k1.frozen 1
  have f2 := k1.frozen 2
  go_wp2_with fail
  refine bodyPost_ret (v := .tuple #[.agg #[.bool false, .slice none 0 0, .slice none 0 0], .int .i64 40]) (by simp [results, Try.results30, go_sem, z0, z1, z2]) rfl ?_
  exact NAnso.bad _ (three_below b1 (by omega) _ _ _)

set_option maxRecDepth 100000 in
set_option maxHeartbeats 1000000 in
theorem fromo_bad2 (a b c d e f h : Int) (t : T) (A : Option Addr) (cap : Nat) (w : World) (hL : Lies w w.heap.size t (.slice A t.l.length cap)) (hk : ok a b c d e f h) (n : Int) (hn : t.right = n) (hz : n ≠ 0) :
    Calls Try.prog 30 #[.agg #[.int .i64 a, .int .i64 b, .int .i64 c, .int .i64 d, .int .i64 e, .int .i64 f, .int .i64 h], .agg #[.int .i64 t.k, .int .u64 t.n, .string t.s, .slice A t.l.length cap]] w (NAnso w (zN, n)) := by
  have F0 := Fx.new w a b c d e f h t (.slice A t.l.length cap)
  have hr := fun wr (hb : Below w.heap.size w wr) => adds.right_any t _ wr ((Lies.below hL hb).now hb.size)
  rw [hn] at hr
  unfold T.val at hr
  have d1 : (n != 0) = true := by simpa using hz
  clear hz hn hL
  generalize t.l.length = nl at *
  go_enter Try.func30, Try.ntmps30
  go_wp2_with fail
  refine (quotas.right_ok _ _ _ _ _ _ _ _ hk).mono ?_
  rintro x w1 ⟨rfl, hb1⟩
  have F1 := F0.next hb1
  clear F0 hb1
  obtain ⟨⟨⟨c0, c1, c2, c3, c4, c5, c6⟩, l1, l2, b1⟩, ⟨y0, y1, y2, y3⟩, k1⟩ := id F1
  have lk := k1.lt
  go_wp2_with fail
  refine (hr _ b1).mono ?_
  rintro x w2 ⟨rfl, hb2⟩
  have F2 := F1.next hb2
  clear F1 hb2 c0 c1 c2 c3 c4 c5 c6 l1 l2 b1 y0 y1 y2 y3 k1 lk hr
  obtain ⟨⟨⟨c0, c1, c2, c3, c4, c5, c6⟩, l1, l2, b1⟩, ⟨y0, y1, y2, y3⟩, k1⟩ := id F2
  have lk := k1.lt
  have z0 := k1.cell 0
  have z1 := k1.cell 1
  have z2 := k1.cell 2
  simp at z0 z1 z2
  have f0 := k1.frozen 0
  have f1 := k1.frozen 1
  have f2 := k1.frozen 2
  go_wp2_with fail
  refine bodyPost_ret (v := .tuple #[.agg #[.bool false, .slice none 0 0, .slice none 0 0], .int .i64 n]) (by simp [results, Try.results30, go_sem, z0, z1, z2]) rfl ?_
  exact NAnso.bad _ (three_below b1 (by omega) _ _ _)

set_option maxRecDepth 100000 in
set_option maxHeartbeats 1000000 in
theorem fromo_bad3 (a b c d e f h : Int) (t : T) (A : Option Addr) (cap : Nat) (w : World) (hL : Lies w w.heap.size t (.slice A t.l.length cap)) (hk : ok a b c d e f h) (hn : t.right = 0) (hz : nodB t = false) :
    Calls Try.prog 30 #[.agg #[.int .i64 a, .int .i64 b, .int .i64 c, .int .i64 d, .int .i64 e, .int .i64 f, .int .i64 h], .agg #[.int .i64 t.k, .int .u64 t.n, .string t.s, .slice A t.l.length cap]] w (NAnso w (zN, 60)) := by
  have F0 := Fx.new w a b c d e f h t (.slice A t.l.length cap)
  have hr := fun wr (hb : Below w.heap.size w wr) => adds.right_any t _ wr ((Lies.below hL hb).now hb.size)
  rw [hn] at hr
  unfold T.val at hr
  have hd := fun wr (hb : Below w.heap.size w wr) => nodeOfo_any t A cap wr (S_world (S_of hL).1 hb)
  clear hn hL
  have HB := vers.lay hz
  clear hz
  generalize hnl : t.l.length = nl at *
  clear hnl
  go_enter Try.func30, Try.ntmps30
  go_wp2_with fail
  refine (quotas.right_ok _ _ _ _ _ _ _ _ hk).mono ?_
  rintro x w1 ⟨rfl, hb1⟩
  have F1 := F0.next hb1
  clear F0 hb1
  obtain ⟨⟨⟨c0, c1, c2, c3, c4, c5, c6⟩, l1, l2, b1⟩, ⟨y0, y1, y2, y3⟩, k1⟩ := id F1
  have lk := k1.lt
  go_wp2_with fail
  refine (hr _ b1).mono ?_
  rintro x w2 ⟨rfl, hb2⟩
  have F2 := F1.next hb2
  clear F1 hb2 c0 c1 c2 c3 c4 c5 c6 l1 l2 b1 y0 y1 y2 y3 k1 lk hr
  obtain ⟨⟨⟨c0, c1, c2, c3, c4, c5, c6⟩, l1, l2, b1⟩, ⟨y0, y1, y2, y3⟩, k1⟩ := id F2
  have lk := k1.lt
  go_wp2_with fail
  refine (hd _ b1).mono ?_
  rintro x w3 ⟨lf, es, A3, m3, ks, Q3, q3, rfl, _, _, _, hb3⟩
  rw [HB.out]
  have F3 := F2.next hb3
  have F4 := F3.next ((Below.refl w3.heap.size w3).alloc (Nat.le_refl _) (.cells #[.bool lf, .slice A3 es.length m3, .slice Q3 ks.length q3] 27))
  clear F2 c0 c1 c2 c3 c4 c5 c6 l1 l2 b1 y0 y1 y2 y3 k1 lk hd hb3 F3
  obtain ⟨⟨⟨c0, c1, c2, c3, c4, c5, c6⟩, l1, l2, b1⟩, ⟨y0, y1, y2, y3⟩, k1⟩ := F4
  have lk := k1.lt
  have z0 := k1.cell 0
  have z1 := k1.cell 1
  have z2 := k1.cell 2
  simp at z0 z1 z2
  have f0 := k1.frozen 0
  have f1 := k1.frozen 1
  have f2 := k1.frozen 2
  generalize es.length = ne at *
  generalize ks.length = nk at *
  go_wp2_with fail
  refine bodyPost_ret (v := .tuple #[.agg #[.bool false, .slice none 0 0, .slice none 0 0], .int .i64 60]) (by simp [results, Try.results30, go_sem, z0, z1, z2]) rfl ?_
  exact NAnso.bad _ (three_below b1 (by omega) _ _ _)

set_option maxRecDepth 100000 in
set_option maxHeartbeats 1000000 in
theorem fromo_ok (a b c d e f h : Int) (t : T) (A : Option Addr) (cap : Nat) (w : World) (hL : Lies w w.heap.size t (.slice A t.l.length cap)) (hk : ok a b c d e f h) (hn : t.right = 0) (hz : nodB t = true) (n : Int) (hnn : ndP a b c d e f h (nodeP t) = n) (r : P3 × Int) (hrr : (if n ≠ 0 then (zN, n) else (nodeP t, 0)) = r) :
    Calls Try.prog 30 #[.agg #[.int .i64 a, .int .i64 b, .int .i64 c, .int .i64 d, .int .i64 e, .int .i64 f, .int .i64 h], .agg #[.int .i64 t.k, .int .u64 t.n, .string t.s, .slice A t.l.length cap]] w (NAnso w r) := by
  have HRR := vers.lay hrr
  clear hrr
  have F0 := Fx.new w a b c d e f h t (.slice A t.l.length cap)
  have hr := fun wr (hb : Below w.heap.size w wr) => adds.right_any t _ wr ((Lies.below hL hb).now hb.size)
  rw [hn] at hr
  unfold T.val at hr
  have hd := fun wr (hb : Below w.heap.size w wr) => nodeOfo_any t A cap wr (S_world (S_of hL).1 hb)
  clear hn hL
  have HB := vers.lay hz
  have HN := vers.lay hnn
  clear hz hnn
  generalize hnl : t.l.length = nl at *
  clear hnl
  go_enter Try.func30, Try.ntmps30
  go_wp2_with fail
  refine (quotas.right_ok _ _ _ _ _ _ _ _ hk).mono ?_
  rintro x w1 ⟨rfl, hb1⟩
  have F1 := F0.next hb1
  clear F0 hb1
  obtain ⟨⟨⟨c0, c1, c2, c3, c4, c5, c6⟩, l1, l2, b1⟩, ⟨y0, y1, y2, y3⟩, k1⟩ := id F1
  have lk := k1.lt
  go_wp2_with fail
  refine (hr _ b1).mono ?_
  rintro x w2 ⟨rfl, hb2⟩
  have F2 := F1.next hb2
  clear F1 hb2 c0 c1 c2 c3 c4 c5 c6 l1 l2 b1 y0 y1 y2 y3 k1 lk hr
  obtain ⟨⟨⟨c0, c1, c2, c3, c4, c5, c6⟩, l1, l2, b1⟩, ⟨y0, y1, y2, y3⟩, k1⟩ := id F2
  have lk := k1.lt
  go_wp2_with fail
  refine (hd _ b1).mono ?_
  rintro x w3 ⟨lf, es, A3, m3, ks, Q3, q3, rfl, hval, hE, hK, hb3⟩
  have HV := vers.lay (hval HB.out)
  rw [HB.out]
  have D4 : Below w3.heap.size w3 (w3.alloc (.cells #[.bool lf, .slice A3 es.length m3, .slice Q3 ks.length q3] 27)) := (Below.refl _ _).alloc (Nat.le_refl _) _
  have hsz2 := F2.2.2.lt
  have F3 := F2.next hb3
  have F4 := F3.next D4
  have N4 := Nb.new w3 lf (.slice A3 es.length m3) (.slice Q3 ks.length q3)
  have hc := ownNode_any a b c d e f h lf es ks A3 m3 Q3 q3 (w3.alloc (.cells #[.bool lf, .slice A3 es.length m3, .slice Q3 ks.length q3] 27)) (hE.es D4.size (FrameO.of_below D4)) (hK.ks D4.size (FrameO.of_below D4))
  rw [ndP_of, HV.out, HN.out] at hc
  have HE := vers.lay hE
  have HK := vers.lay hK
  have hz3 := hb3.size
  clear F2 c0 c1 c2 c3 c4 c5 c6 l1 l2 b1 y0 y1 y2 y3 k1 lk hd hb3 F3 hval hE hK
  generalize hne : es.length = ne at *
  generalize hnk : ks.length = nk at *
  have HNE := vers.lay hne
  have HNK := vers.lay hnk
  clear hne hnk
  obtain ⟨⟨⟨c0, c1, c2, c3, c4, c5, c6⟩, l1, l2, b1⟩, ⟨y0, y1, y2, y3⟩, k1⟩ := id F4
  have lk := k1.lt
  by_cases hn0 : n = 0
  · have d1 : (n != 0) = false := by simp [hn0]
    have HRR2 := vers.lay (HRR.out.symm.trans (if_neg (by simpa using hn0)))
    clear HRR
    subst hn0
    go_wp2_with fail
    refine hc.mono ?_
    rintro x w5 ⟨rfl, hb5⟩
    have F5 := F4.next hb5
    have N5 := N4.next hb5
    have hz5 := hb5.size
    simp only [World.size_alloc] at hz5
    clear F4 N4 c0 c1 c2 c3 c4 c5 c6 l1 l2 b1 y0 y1 y2 y3 k1 lk hc
    obtain ⟨⟨⟨c0, c1, c2, c3, c4, c5, c6⟩, l1, l2, b1⟩, ⟨y0, y1, y2, y3⟩, k1⟩ := F5
    obtain ⟨⟨n0, n1, n2⟩, ln⟩ := N5
    have lk := k1.lt
    have z0 := k1.cell 0
    have z1 := k1.cell 1
    have z2 := k1.cell 2
    simp at z0 z1 z2
    have f0 := k1.frozen 0
    have f1 := k1.frozen 1
    have f2 := k1.frozen 2
    go_wp2_with fail
    refine bodyPost_ret (v := .tuple #[.agg #[.bool lf, .slice A3 ne m3, .slice Q3 nk q3], .int .i64 0]) (by simp [results, Try.results30, go_sem, z0, z1, z2]) rfl ?_
    rw [HRR2.out, ← HV.out]
    have hne := HNE.out
    have hnk := HNK.out
    subst hne
    subst hnk
    have hfr : FrameO w3 (((w5.setCell ⟨w.heap.size + 2, 0, none⟩ (.bool lf)).setCell ⟨w.heap.size + 2, 1, none⟩ (.slice A3 es.length m3)).setCell ⟨w.heap.size + 2, 2, none⟩ (.slice Q3 ks.length q3)) w2.heap.size w3.heap.size := fun p p1 p2 => by
      rw [three_heap _ _ _ _ _ p (by omega), hb5.block p (by simp; omega), Below.heap_alloc _ _ _ p2]
    refine ⟨three_below b1 (by omega) _ _ _, es, A3, m3, Q3, q3, rfl, rfl, ?_, ?_⟩
    · exact HE.out.move (by omega) (by simp; omega) hfr
    · exact HK.out.move (by omega) (by simp; omega) hfr
  · have d1 : (n != 0) = true := by simpa using hn0
    have HRR2 := vers.lay (HRR.out.symm.trans (if_pos hn0))
    clear HRR hn0
    go_wp2_with fail
    refine hc.mono ?_
    rintro x w5 ⟨rfl, hb5⟩
    have F5 := F4.next hb5
    clear F4 N4 c0 c1 c2 c3 c4 c5 c6 l1 l2 b1 y0 y1 y2 y3 k1 lk hc
    obtain ⟨⟨⟨c0, c1, c2, c3, c4, c5, c6⟩, l1, l2, b1⟩, ⟨y0, y1, y2, y3⟩, k1⟩ := F5
    have lk := k1.lt
    have z0 := k1.cell 0
    have z1 := k1.cell 1
    have z2 := k1.cell 2
    simp at z0 z1 z2
    have f0 := k1.frozen 0
    have f1 := k1.frozen 1
    have f2 := k1.frozen 2
    go_wp2_with fail
    refine bodyPost_ret (v := .tuple #[.agg #[.bool false, .slice none 0 0, .slice none 0 0], .int .i64 n]) (by simp [results, Try.results30, go_sem, z0, z1, z2]) rfl ?_
    rw [HRR2.out]
    exact NAnso.bad _ (three_below b1 (by omega) _ _ _)

theorem fromo_any (a b c d e f h : Int) (t : T) (A : Option Addr) (cap : Nat) (w : World) (hL : Lies w w.heap.size t (.slice A t.l.length cap)) :
    Calls Try.prog 30 #[.agg #[.int .i64 a, .int .i64 b, .int .i64 c, .int .i64 d, .int .i64 e, .int .i64 f, .int .i64 h], .agg #[.int .i64 t.k, .int .u64 t.n, .string t.s, .slice A t.l.length cap]] w (NAnso w (fromP a b c d e f h t)) := by
  unfold fromP
  by_cases hk : ok a b c d e f h
  · rw [if_pos hk]
    by_cases hr : t.right = 0
    · rw [if_neg (by simpa using hr)]
      cases hb : nodB t with
      | true =>
        rw [if_pos rfl]
        exact fromo_ok a b c d e f h t A cap w hL hk hr hb _ rfl _ rfl
      | false =>
        rw [if_neg (by simp)]
        exact fromo_bad3 a b c d e f h t A cap w hL hk hr hb
    · rw [if_pos hr]
      exact fromo_bad2 a b c d e f h t A cap w hL hk _ rfl hr
  · rw [if_neg hk]
    exact fromo_bad1 a b c d e f h t A _ cap w hk

end Go.Proofs.Ytnkfboplafckoaa.nodes
