/- What package node's own Open answers: the caller's own. -/
import Derived.Test.YtnkfboplafckoaaNeN
import Derived.Test.YtnkfboplafckoaaNeCG


namespace Go.Proofs.Ytnkfboplafckoaa.nodes
set_option linter.unusedVariables false
set_option linter.unusedSimpArgs false
open Go.RowKit Go.Proofs.Ytnkfboplafckoaa.base Go.Proofs.Ytnkfboplafckoaa.quotas Go.Proofs.Ytnkfboplafckoaa.vers Go.Proofs.Ytnkfboplafckoaa.tm Go.Proofs.Ytnkfboplafckoaa.lies Go.Proofs.Ytnkfboplafckoaa.copies Go.Proofs.Ytnkfboplafckoaa.makes Go.Proofs.Ytnkfboplafckoaa.trees

set_option maxRecDepth 100000 in
set_option maxHeartbeats 1000000 in
theorem ownOpeno_bad1 (a b c d e f h : Int) (key : Int) (s : ByteArray) (w : World) (hk : ¬ ok a b c d e f h) :
    Calls Try.prog 13 #[.agg #[.int .i64 a, .int .i64 b, .int .i64 c, .int .i64 d, .int .i64 e, .int .i64 f, .int .i64 h], .int .u64 key, .string s] w (NAnso w (zN, 40)) := by
  have F0 := Hx.new w a b c d e f h
  go_enter Try.func13, Try.ntmps13
  go_wp2_with fail
  refine (quotas.right_no _ _ _ _ _ _ _ _ hk).mono ?_
  rintro x w1 ⟨rfl, hb1⟩
  have F1 := F0.next hb1
  clear F0 hb1
  obtain ⟨⟨⟨c0, c1, c2, c3, c4, c5, c6⟩, l1, l2, b1⟩, k1⟩ := id F1
  have lk := k1.lt
  have z0 := k1.cell 0
  have z1 := k1.cell 1
  have z2 := k1.cell 2
  simp at z0 z1 z2
  have f0 := k1.frozen 0
  have f1 := k1.frozen 1
  have f2 := k1.frozen 2
  go_wp2_with fail
  refine bodyPost_ret (v := .tuple #[.agg #[.bool false, .slice none 0 0, .slice none 0 0], .int .i64 40]) (by simp [results, Try.results13, go_sem, z0, z1, z2]) rfl ?_
  exact NAnso.bad _ (three_below b1 (by omega) _ _ _)

set_option maxRecDepth 100000 in
set_option maxHeartbeats 1000000 in
theorem ownOpeno_bad2 (a b c d e f h : Int) (key : Int) (s : ByteArray) (w : World) (hs : s.size ≤ maxLen) (hk : ok a b c d e f h) (n : Int) (hn : (boxes.unpackT key s).2 = n) (hz : n ≠ 0) :
    Calls Try.prog 13 #[.agg #[.int .i64 a, .int .i64 b, .int .i64 c, .int .i64 d, .int .i64 e, .int .i64 f, .int .i64 h], .int .u64 key, .string s] w (NAnso w (zN, n)) := by
  have F0 := Hx.new w a b c d e f h
  have hu := fun wr => boxes.unpack_any key s wr hs
  generalize boxes.unpackT key s = r at hu hn
  obtain ⟨⟨tk, tn, ts, tl⟩, te⟩ := r
  simp only at hn
  subst hn
  have d1 : (te != 0) = true := by simpa using hz
  clear hz
  go_enter Try.func13, Try.ntmps13
  go_wp2_with fail
  refine (quotas.right_ok _ _ _ _ _ _ _ _ hk).mono ?_
  rintro x w1 ⟨rfl, hb1⟩
  have F1 := F0.next hb1
  clear F0 hb1
  obtain ⟨⟨⟨c0, c1, c2, c3, c4, c5, c6⟩, l1, l2, b1⟩, k1⟩ := id F1
  have lk := k1.lt
  go_wp2_with fail
  refine (hu _).mono ?_
  rintro x w2 ⟨hb2, A2, m2, rfl, _, _⟩
  simp only [T.val, T.k, T.n, T.s, T.l]
  have F2 := (F1.next hb2).next ((Below.refl w2.heap.size w2).alloc (Nat.le_refl _) (.cells #[.int .i64 tk, .int .u64 tn, .string ts, .slice A2 tl.length m2] 31))
  clear F1 hb2 c0 c1 c2 c3 c4 c5 c6 l1 l2 b1 k1 lk hu
  obtain ⟨⟨⟨c0, c1, c2, c3, c4, c5, c6⟩, l1, l2, b1⟩, k1⟩ := id F2
  have lk := k1.lt
  generalize tl.length = nl at *
  have z0 := k1.cell 0
  have z1 := k1.cell 1
  have z2 := k1.cell 2
  simp at z0 z1 z2
  have f0 := k1.frozen 0
  have f1 := k1.frozen 1
  have f2 := k1.frozen 2
  go_wp2_with fail
  refine bodyPost_ret (v := .tuple #[.agg #[.bool false, .slice none 0 0, .slice none 0 0], .int .i64 te]) (by simp [results, Try.results13, go_sem, z0, z1, z2]) rfl ?_
  exact NAnso.bad _ (three_below b1 (by omega) _ _ _)

set_option maxRecDepth 100000 in
set_option maxHeartbeats 1000000 in
theorem ownOpeno_go (a b c d e f h : Int) (key : Int) (s : ByteArray) (w : World) (hs : s.size ≤ maxLen) (hk : ok a b c d e f h) (hn : (boxes.unpackT key s).2 = 0) (rr : P3 × Int) (hrr : fromP a b c d e f h (boxes.unpackT key s).1 = rr) :
    Calls Try.prog 13 #[.agg #[.int .i64 a, .int .i64 b, .int .i64 c, .int .i64 d, .int .i64 e, .int .i64 f, .int .i64 h], .int .u64 key, .string s] w (NAnso w rr) := by
  have F0 := Hx.new w a b c d e f h
  have hu := fun wr => boxes.unpack_any key s wr hs
  generalize boxes.unpackT key s = r at hu hn hrr
  obtain ⟨⟨tk, tn, ts, tl⟩, te⟩ := r
  simp only at hn hrr
  subst hn
  have HRR := vers.lay hrr
  clear hrr
  have d1 : ((0 : Int) != 0) = false := by decide
  go_enter Try.func13, Try.ntmps13
  go_wp2_with fail
  refine (quotas.right_ok _ _ _ _ _ _ _ _ hk).mono ?_
  rintro x w1 ⟨rfl, hb1⟩
  have F1 := F0.next hb1
  clear F0 hb1
  obtain ⟨⟨⟨c0, c1, c2, c3, c4, c5, c6⟩, l1, l2, b1⟩, k1⟩ := id F1
  have lk := k1.lt
  go_wp2_with fail
  refine (hu _).mono ?_
  rintro x w2 ⟨hb2, A2, m2, rfl, hH2, hF2⟩
  simp only [T.val, T.k, T.n, T.s, T.l] at hH2 ⊢
  have F2 := F1.next hb2
  have D2 : Below w2.heap.size w2 (w2.alloc (.cells #[.int .i64 tk, .int .u64 tn, .string ts, .slice A2 tl.length m2] 31)) := (Below.refl _ _).alloc (Nat.le_refl _) _
  have F3 := F2.next D2
  have L1 := Held.lies (t := .mk tk tn ts tl) (w := w2.alloc (.cells #[.int .i64 tk, .int .u64 tn, .string ts, .slice A2 tl.length m2] 31)) (hH2.move (Nat.le_refl _) (Nat.le_refl _) (fun p _ p2 => D2.cell p2)) hF2.1 hF2.2.1 hF2.2.2 (by simp)
  have hf := fromo_any a b c d e f h (.mk tk tn ts tl) A2 m2 (w2.alloc (.cells #[.int .i64 tk, .int .u64 tn, .string ts, .slice A2 tl.length m2] 31)) L1
  rw [HRR.out] at hf
  simp only [T.k, T.n, T.s, T.l] at hf
  clear L1 hH2 hF2 F1 hb2 c0 c1 c2 c3 c4 c5 c6 l1 l2 b1 k1 lk hu HRR
  obtain ⟨⟨lf, ps, ks⟩, er⟩ := rr
  generalize tl.length = nl at *
  obtain ⟨⟨⟨c0, c1, c2, c3, c4, c5, c6⟩, l1, l2, b1⟩, k1⟩ := id F2
  have lk := k1.lt
  go_wp2_with fail
  clear c0 c1 c2 c3 c4 c5 c6 l1 l2 b1 k1 lk F2
  refine hf.mono ?_
  rintro x w3 ⟨hb3, es3, A3, m3, Q3, q3, rfl, hpe, hE, hK⟩
  simp only at hpe hK ⊢
  have F4 := F3.next hb3
  have hsz := F3.2.lt
  clear F3 hf D2
  obtain ⟨⟨⟨c0, c1, c2, c3, c4, c5, c6⟩, l1, l2, b1⟩, k1⟩ := id F4
  have lk := k1.lt
  generalize hne : es3.length = ne
  generalize hnk : ks.length = nk
  have HNE := vers.lay hne
  have HNK := vers.lay hnk
  clear hne hnk
  have z0 := k1.cell 0
  have z1 := k1.cell 1
  have z2 := k1.cell 2
  simp at z0 z1 z2
  have f0 := k1.frozen 0
  have f1 := k1.frozen 1
  have f2 := k1.frozen 2
  go_wp2_with fail
  refine bodyPost_ret (v := .tuple #[.agg #[.bool lf, .slice A3 ne m3, .slice Q3 nk q3], .int .i64 er]) (by simp [results, Try.results13, go_sem, z0, z1, z2]) rfl ?_
  have hfr : FrameO w3 (((w3.setCell ⟨w.heap.size + 1, 0, none⟩ (.bool lf)).setCell ⟨w.heap.size + 1, 1, none⟩ (.slice A3 ne m3)).setCell ⟨w.heap.size + 1, 2, none⟩ (.slice Q3 nk q3)) (w2.alloc (.cells #[.int .i64 tk, .int .u64 tn, .string ts, .slice A2 nl m2] 31)).heap.size w3.heap.size := fun p p1 p2 => three_heap _ _ _ _ _ p (by omega)
  refine ⟨three_below b1 (by omega) _ _ _, es3, A3, m3, Q3, q3, by rw [HNE.out, HNK.out], hpe, hE.move (by omega) (by simp) hfr, hK.move (by omega) (by simp) hfr⟩

theorem ownOpeno_any (a b c d e f h : Int) (key : Int) (s : ByteArray) (w : World) (hs : s.size ≤ maxLen) :
    Calls Try.prog 13 #[.agg #[.int .i64 a, .int .i64 b, .int .i64 c, .int .i64 d, .int .i64 e, .int .i64 f, .int .i64 h], .int .u64 key, .string s] w (NAnso w (openP a b c d e f h key s)) := by
  unfold openP
  by_cases hk : ok a b c d e f h
  · rw [if_pos hk]
    by_cases hz : (boxes.unpackT key s).2 = 0
    · rw [if_neg (by simpa using hz)]
      exact ownOpeno_go a b c d e f h key s w hs hk hz _ rfl
    · rw [if_pos hz]
      exact ownOpeno_bad2 a b c d e f h key s w hs hk _ rfl hz
  · rw [if_neg hk]
    exact ownOpeno_bad1 a b c d e f h key s w hk

end Go.Proofs.Ytnkfboplafckoaa.nodes
