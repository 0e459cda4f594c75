/- What package node's own Seal and Open answer, and letheref06's Open. -/
import Derived.Test.YtanfjnahdnafnaaGreatNeA
import Derived.Test.YtanfjnahdnafnaaGreatNdP
import Derived.Test.YtanfjnahdnafnaaGreatNdJK


namespace Go.Proofs.YtanfjnahdnafnaaGreat.nodes
set_option linter.unusedVariables false
set_option linter.unusedSimpArgs false
open Go.RowKit Go.Proofs.YtanfjnahdnafnaaGreat.base Go.Proofs.YtanfjnahdnafnaaGreat.quotas Go.Proofs.YtanfjnahdnafnaaGreat.vers Go.Proofs.YtanfjnahdnafnaaGreat.tm Go.Proofs.YtanfjnahdnafnaaGreat.lies Go.Proofs.YtanfjnahdnafnaaGreat.copies Go.Proofs.YtanfjnahdnafnaaGreat.makes

set_option maxRecDepth 100000 in
set_option maxHeartbeats 1000000 in
theorem ownSeal_any (a b c d e f h : Int) (key : Int) (lf : Bool) (es : List E) (ks : List K) (A : Option Addr) (cap : Nat) (A' : Option Addr) (cap' : Nat) (w : World) (hk : 0 ≤ key ∧ key < 18446744073709551616) (hv : Es w w.heap.size es A cap) (hks : Ks w w.heap.size ks A' cap') :
    Calls Tryz.prog 4 #[.agg #[.int .i64 a, .int .i64 b, .int .i64 c, .int .i64 d, .int .i64 e, .int .i64 f, .int .i64 h], .int .u64 key, .agg #[.bool lf, .slice A es.length cap, .slice A' ks.length cap']] w fun x w' => x = .returned (.tuple #[.string (sealP key (termP a b c d e f h lf es ks)).1, .int .i64 (sealP key (termP a b c d e f h lf es ks)).2]) ∧ Below w.heap.size w w' := by
  have B0 := Bn.new w a b c d e f h lf (.slice A es.length cap) (.slice A' ks.length cap')
  have h2 := fun wr (hb : Below w.heap.size w wr) => termIs a b c d e f h lf es ks A cap A' cap' wr (hv.at_world hb) (hks.at_world hb)
  generalize termP a b c d e f h lf es ks = r at h2 ⊢
  clear hv hks
  generalize es.length = ne at B0 h2 ⊢
  generalize ks.length = nk at B0 h2 ⊢
  obtain ⟨⟨tk, tn, ts, tl⟩, te⟩ := r
  by_cases hz : te = 0
  · subst hz
    have hs : sealP key (T.mk tk tn ts tl, 0) = boxes.packT key (T.mk tk tn ts tl) := by unfold sealP; rw [if_neg (by simp)]
    rw [hs]
    clear hs
    go_enter Tryz.func4, Tryz.ntmps4
    go_wp2_with fail
    refine (h2 _ B0.below).mono ?_
    rintro x w1 ⟨hb1, A1, m1, rfl, hH1, hF1⟩
    simp only [T.val, T.k, T.n, T.s, T.l] at hH1 ⊢
    have G1 := B0.next hb1
    have b1 := G1.below
    have D1 : Below w1.heap.size w1 (w1.alloc (.cells #[.int .i64 tk, .int .u64 tn, .string ts, .slice A1 tl.length m1] 38)) := (Below.refl _ _).alloc (Nat.le_refl _) _
    have b2 := b1.trans (D1.mono b1.size)
    have L1 := Held.lies (t := .mk tk tn ts tl) (w := w1.alloc (.cells #[.int .i64 tk, .int .u64 tn, .string ts, .slice A1 tl.length m1] 38)) (hH1.move (Nat.le_refl _) (Nat.le_refl _) (fun p _ p2 => D1.cell p2)) hF1.1 hF1.2.1 hF1.2.2 (by simp)
    have hl := boxes.pack_any key (.mk tk tn ts tl) _ _ hk L1
    generalize hr : boxes.packT key (.mk tk tn ts tl) = r at hl ⊢
    have HR := vers.lay hr
    clear hr
    clear L1 hH1 hF1 D1 hb1 B0 G1 h2
    go_wp2_with fail
    refine hl.mono ?_
    rintro x w3 ⟨rfl, hb3⟩
    go_wp2_with fail
    go_ret2
    exact ⟨by rw [HR.out]; rfl, b2.trans (hb3.mono b2.size)⟩
  · have hs : sealP key (T.mk tk tn ts tl, te) = (⟨#[]⟩, te) := by unfold sealP; rw [if_pos hz]
    rw [hs]
    have d1 : (te != 0) = true := by simpa using hz
    clear hs hz
    go_enter Tryz.func4, Tryz.ntmps4
    go_wp2_with fail
    refine (h2 _ B0.below).mono ?_
    rintro x w1 ⟨hb1, A1, m1, rfl, hH1, hF1⟩
    simp only [T.val, T.k, T.n, T.s, T.l] at hH1 ⊢
    have G1 := B0.next hb1
    have b1 := G1.below
    have D1 : Below w1.heap.size w1 (w1.alloc (.cells #[.int .i64 tk, .int .u64 tn, .string ts, .slice A1 tl.length m1] 38)) := (Below.refl _ _).alloc (Nat.le_refl _) _
    clear hH1 hF1
    go_wp2_with fail
    go_ret2
    exact ⟨rfl, b1.trans (D1.mono b1.size)⟩

/-- the node of some bytes, or why there is none -/
def openP (a b c d e f h : Int) (key : Int) (s : ByteArray) : P3 × Int := if ok a b c d e f h then (if (boxes.unpackT key s).2 ≠ 0 then (zN, (boxes.unpackT key s).2) else fromP a b c d e f h (boxes.unpackT key s).1) else (zN, 40)
/-- behind Open's beginning: the quota's box, the answer's -/
def Hx (w : World) (a b c d e f h : Int) (wr : World) : Prop := In7 w w.heap.size a b c d e f h wr ∧ Blk wr (w.heap.size + 1) 28 #[.bool false, .slice none 0 0, .slice none 0 0]
theorem Hx.new (w : World) (a b c d e f h : Int) : Hx w a b c d e f h ((w.alloc (.cells #[.int .i64 a, .int .i64 b, .int .i64 c, .int .i64 d, .int .i64 e, .int .i64 f, .int .i64 h] 23)).alloc (.cells #[.bool false, .slice none 0 0, .slice none 0 0] 28)) := by
  have k2 := Blk.new (w.alloc (.cells #[.int .i64 a, .int .i64 b, .int .i64 c, .int .i64 d, .int .i64 e, .int .i64 f, .int .i64 h] 23)) 28 #[.bool false, .slice none 0 0, .slice none 0 0]
  simp only [World.size_alloc] at k2
  exact ⟨(In7.new w a b c d e f h).alloc _, k2⟩
theorem Hx.next {w wr w' : World} {a b c d e f h : Int} (h1 : Hx w a b c d e f h wr) (hb : Below wr.heap.size wr w') : Hx w a b c d e f h w' := ⟨h1.1.next hb, h1.2.below hb h1.2.lt⟩

set_option maxRecDepth 100000 in
set_option maxHeartbeats 1000000 in
theorem ownOpen_bad1 (a b c d e f h : Int) (key : Int) (s : ByteArray) (w : World) (hk : ¬ ok a b c d e f h) :
    Calls Tryz.prog 6 #[.agg #[.int .i64 a, .int .i64 b, .int .i64 c, .int .i64 d, .int .i64 e, .int .i64 f, .int .i64 h], .int .u64 key, .string s] w (NAns w (zN, 40)) := by
  have F0 := Hx.new w a b c d e f h
  go_enter Tryz.func6, Tryz.ntmps6
  go_wp2_with fail
  refine (quotas.right_no _ _ _ _ _ _ _ _ hk).mono ?_
  rintro x w1 ⟨rfl, hb1⟩
  have F1 := F0.next hb1
  clear F0 hb1
  obtain ⟨⟨⟨c0, c1, c2, c3, c4, c5, c6⟩, l1, l2, b1⟩, k1⟩ := id F1
  have lk := k1.lt
  have z0 := k1.cell 0
  have z1 := k1.cell 1
  have z2 := k1.cell 2
  simp at z0 z1 z2
  have f0 := k1.frozen 0
  have f1 := k1.frozen 1
  have f2 := k1.frozen 2
  go_wp2_with fail
  refine bodyPost_ret (v := .tuple #[.agg #[.bool false, .slice none 0 0, .slice none 0 0], .int .i64 40]) (by simp [results, Tryz.results6, go_sem, z0, z1, z2]) rfl ?_
  exact NAns.bad _ (three_below b1 (by omega) _ _ _)

set_option maxRecDepth 100000 in
set_option maxHeartbeats 1000000 in
theorem ownOpen_bad2 (a b c d e f h : Int) (key : Int) (s : ByteArray) (w : World) (hs : s.size ≤ maxLen) (hk : ok a b c d e f h) (n : Int) (hn : (boxes.unpackT key s).2 = n) (hz : n ≠ 0) :
    Calls Tryz.prog 6 #[.agg #[.int .i64 a, .int .i64 b, .int .i64 c, .int .i64 d, .int .i64 e, .int .i64 f, .int .i64 h], .int .u64 key, .string s] w (NAns w (zN, n)) := by
  have F0 := Hx.new w a b c d e f h
  have hu := fun wr => boxes.unpack_any key s wr hs
  generalize boxes.unpackT key s = r at hu hn
  obtain ⟨⟨tk, tn, ts, tl⟩, te⟩ := r
  simp only at hn
  subst hn
  have d1 : (te != 0) = true := by simpa using hz
  clear hz
  go_enter Tryz.func6, Tryz.ntmps6
  go_wp2_with fail
  refine (quotas.right_ok _ _ _ _ _ _ _ _ hk).mono ?_
  rintro x w1 ⟨rfl, hb1⟩
  have F1 := F0.next hb1
  clear F0 hb1
  obtain ⟨⟨⟨c0, c1, c2, c3, c4, c5, c6⟩, l1, l2, b1⟩, k1⟩ := id F1
  have lk := k1.lt
  go_wp2_with fail
  refine (hu _).mono ?_
  rintro x w2 ⟨hb2, A2, m2, rfl, _, _⟩
  simp only [T.val, T.k, T.n, T.s, T.l]
  have F2 := (F1.next hb2).next ((Below.refl w2.heap.size w2).alloc (Nat.le_refl _) (.cells #[.int .i64 tk, .int .u64 tn, .string ts, .slice A2 tl.length m2] 38))
  clear F1 hb2 c0 c1 c2 c3 c4 c5 c6 l1 l2 b1 k1 lk hu
  obtain ⟨⟨⟨c0, c1, c2, c3, c4, c5, c6⟩, l1, l2, b1⟩, k1⟩ := id F2
  have lk := k1.lt
  generalize tl.length = nl at *
  have z0 := k1.cell 0
  have z1 := k1.cell 1
  have z2 := k1.cell 2
  simp at z0 z1 z2
  have f0 := k1.frozen 0
  have f1 := k1.frozen 1
  have f2 := k1.frozen 2
  go_wp2_with fail
  refine bodyPost_ret (v := .tuple #[.agg #[.bool false, .slice none 0 0, .slice none 0 0], .int .i64 te]) (by simp [results, Tryz.results6, go_sem, z0, z1, z2]) rfl ?_
  exact NAns.bad _ (three_below b1 (by omega) _ _ _)

set_option maxRecDepth 100000 in
set_option maxHeartbeats 1000000 in
theorem ownOpen_go (a b c d e f h : Int) (key : Int) (s : ByteArray) (w : World) (hs : s.size ≤ maxLen) (hk : ok a b c d e f h) (hn : (boxes.unpackT key s).2 = 0) (rr : P3 × Int) (hrr : fromP a b c d e f h (boxes.unpackT key s).1 = rr) :
    Calls Tryz.prog 6 #[.agg #[.int .i64 a, .int .i64 b, .int .i64 c, .int .i64 d, .int .i64 e, .int .i64 f, .int .i64 h], .int .u64 key, .string s] w (NAns w rr) := by
  have F0 := Hx.new w a b c d e f h
  have hu := fun wr => boxes.unpack_any key s wr hs
  generalize boxes.unpackT key s = r at hu hn hrr
  obtain ⟨⟨tk, tn, ts, tl⟩, te⟩ := r
  simp only at hn hrr
  subst hn
  have HRR := vers.lay hrr
  clear hrr
  have d1 : ((0 : Int) != 0) = false := by decide
  go_enter Tryz.func6, Tryz.ntmps6
  go_wp2_with fail
  refine (quotas.right_ok _ _ _ _ _ _ _ _ hk).mono ?_
  rintro x w1 ⟨rfl, hb1⟩
  have F1 := F0.next hb1
  clear F0 hb1
  obtain ⟨⟨⟨c0, c1, c2, c3, c4, c5, c6⟩, l1, l2, b1⟩, k1⟩ := id F1
  have lk := k1.lt
  go_wp2_with fail
  refine (hu _).mono ?_
  rintro x w2 ⟨hb2, A2, m2, rfl, hH2, hF2⟩
  simp only [T.val, T.k, T.n, T.s, T.l] at hH2 ⊢
  have F2 := F1.next hb2
  have D2 : Below w2.heap.size w2 (w2.alloc (.cells #[.int .i64 tk, .int .u64 tn, .string ts, .slice A2 tl.length m2] 38)) := (Below.refl _ _).alloc (Nat.le_refl _) _
  have F3 := F2.next D2
  have L1 := Held.lies (t := .mk tk tn ts tl) (w := w2.alloc (.cells #[.int .i64 tk, .int .u64 tn, .string ts, .slice A2 tl.length m2] 38)) (hH2.move (Nat.le_refl _) (Nat.le_refl _) (fun p _ p2 => D2.cell p2)) hF2.1 hF2.2.1 hF2.2.2 (by simp)
  have hf := from_any a b c d e f h (.mk tk tn ts tl) A2 m2 (w2.alloc (.cells #[.int .i64 tk, .int .u64 tn, .string ts, .slice A2 tl.length m2] 38)) L1
  rw [HRR.out] at hf
  simp only [T.k, T.n, T.s, T.l] at hf
  clear L1 hH2 hF2 F1 hb2 c0 c1 c2 c3 c4 c5 c6 l1 l2 b1 k1 lk hu HRR
  obtain ⟨⟨lf, ps, ks⟩, er⟩ := rr
  generalize tl.length = nl at *
  obtain ⟨⟨⟨c0, c1, c2, c3, c4, c5, c6⟩, l1, l2, b1⟩, k1⟩ := id F2
  have lk := k1.lt
  go_wp2_with fail
  clear c0 c1 c2 c3 c4 c5 c6 l1 l2 b1 k1 lk F2
  refine hf.mono ?_
  rintro x w3 ⟨hb3, es3, A3, m3, Q3, q3, rfl, hpe, hE, hK⟩
  simp only at hpe hK ⊢
  have F4 := F3.next hb3
  have hsz := F3.2.lt
  clear F3 hf D2
  obtain ⟨⟨⟨c0, c1, c2, c3, c4, c5, c6⟩, l1, l2, b1⟩, k1⟩ := id F4
  have lk := k1.lt
  generalize hne : es3.length = ne
  generalize hnk : ks.length = nk
  have HNE := vers.lay hne
  have HNK := vers.lay hnk
  clear hne hnk
  have z0 := k1.cell 0
  have z1 := k1.cell 1
  have z2 := k1.cell 2
  simp at z0 z1 z2
  have f0 := k1.frozen 0
  have f1 := k1.frozen 1
  have f2 := k1.frozen 2
  go_wp2_with fail
  refine bodyPost_ret (v := .tuple #[.agg #[.bool lf, .slice A3 ne m3, .slice Q3 nk q3], .int .i64 er]) (by simp [results, Tryz.results6, go_sem, z0, z1, z2]) rfl ?_
  have hfr : Frame w3 (((w3.setCell ⟨w.heap.size + 1, 0, none⟩ (.bool lf)).setCell ⟨w.heap.size + 1, 1, none⟩ (.slice A3 ne m3)).setCell ⟨w.heap.size + 1, 2, none⟩ (.slice Q3 nk q3)) (w2.alloc (.cells #[.int .i64 tk, .int .u64 tn, .string ts, .slice A2 nl m2] 38)).heap.size w3.heap.size := fun p p1 p2 => three_cell _ _ _ _ _ p (by omega)
  refine ⟨three_below b1 (by omega) _ _ _, es3, A3, m3, Q3, q3, by rw [HNE.out, HNK.out], hpe, hE.move (by omega) (by simp) hfr, hK.move (by omega) (by simp) hfr⟩

theorem ownOpen_any (a b c d e f h : Int) (key : Int) (s : ByteArray) (w : World) (hs : s.size ≤ maxLen) :
    Calls Tryz.prog 6 #[.agg #[.int .i64 a, .int .i64 b, .int .i64 c, .int .i64 d, .int .i64 e, .int .i64 f, .int .i64 h], .int .u64 key, .string s] w (NAns w (openP a b c d e f h key s)) := by
  unfold openP
  by_cases hk : ok a b c d e f h
  · rw [if_pos hk]
    by_cases hz : (boxes.unpackT key s).2 = 0
    · rw [if_neg (by simpa using hz)]
      exact ownOpen_go a b c d e f h key s w hs hk hz _ rfl
    · rw [if_pos hz]
      exact ownOpen_bad2 a b c d e f h key s w hs hk _ rfl hz
  · rw [if_neg hk]
    exact ownOpen_bad1 a b c d e f h key s w hk

set_option maxRecDepth 100000 in
set_option maxHeartbeats 1000000 in
theorem refOpen_bad1 (a b c d e f h : Int) (key : Int) (s : ByteArray) (w : World) (hk : ¬ ok a b c d e f h) :
    Calls Tryz.prog 7 #[.agg #[.int .i64 a, .int .i64 b, .int .i64 c, .int .i64 d, .int .i64 e, .int .i64 f, .int .i64 h], .int .u64 key, .string s] w (NAns w (zN, 40)) := by
  have F0 := Hx.new w a b c d e f h
  go_enter Tryz.func7, Tryz.ntmps7
  go_wp2_with fail
  refine (quotas.refRight_no _ _ _ _ _ _ _ _ hk).mono ?_
  rintro x w1 ⟨rfl, hb1⟩
  have F1 := F0.next hb1
  clear F0 hb1
  obtain ⟨⟨⟨c0, c1, c2, c3, c4, c5, c6⟩, l1, l2, b1⟩, k1⟩ := id F1
  have lk := k1.lt
  have z0 := k1.cell 0
  have z1 := k1.cell 1
  have z2 := k1.cell 2
  simp at z0 z1 z2
  have f0 := k1.frozen 0
  have f1 := k1.frozen 1
  have f2 := k1.frozen 2
  go_wp2_with fail
  refine bodyPost_ret (v := .tuple #[.agg #[.bool false, .slice none 0 0, .slice none 0 0], .int .i64 40]) (by simp [results, Tryz.results7, go_sem, z0, z1, z2]) rfl ?_
  exact NAns.bad _ (three_below b1 (by omega) _ _ _)

set_option maxRecDepth 100000 in
set_option maxHeartbeats 1000000 in
theorem refOpen_bad2 (a b c d e f h : Int) (key : Int) (s : ByteArray) (w : World) (hs : s.size ≤ maxLen) (hk : ok a b c d e f h) (n : Int) (hn : (boxes.unpackT key s).2 = n) (hz : n ≠ 0) :
    Calls Tryz.prog 7 #[.agg #[.int .i64 a, .int .i64 b, .int .i64 c, .int .i64 d, .int .i64 e, .int .i64 f, .int .i64 h], .int .u64 key, .string s] w (NAns w (zN, n)) := by
  have F0 := Hx.new w a b c d e f h
  have hu := fun wr => boxes.refUnpack_any key s wr hs
  generalize boxes.unpackT key s = r at hu hn
  obtain ⟨⟨tk, tn, ts, tl⟩, te⟩ := r
  simp only at hn
  subst hn
  have d1 : (te != 0) = true := by simpa using hz
  clear hz
  go_enter Tryz.func7, Tryz.ntmps7
  go_wp2_with fail
  refine (quotas.refRight_ok _ _ _ _ _ _ _ _ hk).mono ?_
  rintro x w1 ⟨rfl, hb1⟩
  have F1 := F0.next hb1
  clear F0 hb1
  obtain ⟨⟨⟨c0, c1, c2, c3, c4, c5, c6⟩, l1, l2, b1⟩, k1⟩ := id F1
  have lk := k1.lt
  go_wp2_with fail
  refine (hu _).mono ?_
  rintro x w2 ⟨hb2, A2, m2, rfl, _, _⟩
  simp only [T.val, T.k, T.n, T.s, T.l]
  have F2 := (F1.next hb2).next ((Below.refl w2.heap.size w2).alloc (Nat.le_refl _) (.cells #[.int .i64 tk, .int .u64 tn, .string ts, .slice A2 tl.length m2] 38))
  clear F1 hb2 c0 c1 c2 c3 c4 c5 c6 l1 l2 b1 k1 lk hu
  obtain ⟨⟨⟨c0, c1, c2, c3, c4, c5, c6⟩, l1, l2, b1⟩, k1⟩ := id F2
  have lk := k1.lt
  generalize tl.length = nl at *
  have z0 := k1.cell 0
  have z1 := k1.cell 1
  have z2 := k1.cell 2
  simp at z0 z1 z2
  have f0 := k1.frozen 0
  have f1 := k1.frozen 1
  have f2 := k1.frozen 2
  go_wp2_with fail
  refine bodyPost_ret (v := .tuple #[.agg #[.bool false, .slice none 0 0, .slice none 0 0], .int .i64 te]) (by simp [results, Tryz.results7, go_sem, z0, z1, z2]) rfl ?_
  exact NAns.bad _ (three_below b1 (by omega) _ _ _)

set_option maxRecDepth 100000 in
set_option maxHeartbeats 1000000 in
theorem refOpen_go (a b c d e f h : Int) (key : Int) (s : ByteArray) (w : World) (hs : s.size ≤ maxLen) (hk : ok a b c d e f h) (hn : (boxes.unpackT key s).2 = 0) (rr : P3 × Int) (hrr : fromP a b c d e f h (boxes.unpackT key s).1 = rr) :
    Calls Tryz.prog 7 #[.agg #[.int .i64 a, .int .i64 b, .int .i64 c, .int .i64 d, .int .i64 e, .int .i64 f, .int .i64 h], .int .u64 key, .string s] w (NAns w rr) := by
  have F0 := Hx.new w a b c d e f h
  have hu := fun wr => boxes.refUnpack_any key s wr hs
  generalize boxes.unpackT key s = r at hu hn hrr
  obtain ⟨⟨tk, tn, ts, tl⟩, te⟩ := r
  simp only at hn hrr
  subst hn
  have HRR := vers.lay hrr
  clear hrr
  have d1 : ((0 : Int) != 0) = false := by decide
  go_enter Tryz.func7, Tryz.ntmps7
  go_wp2_with fail
  refine (quotas.refRight_ok _ _ _ _ _ _ _ _ hk).mono ?_
  rintro x w1 ⟨rfl, hb1⟩
  have F1 := F0.next hb1
  clear F0 hb1
  obtain ⟨⟨⟨c0, c1, c2, c3, c4, c5, c6⟩, l1, l2, b1⟩, k1⟩ := id F1
  have lk := k1.lt
  go_wp2_with fail
  refine (hu _).mono ?_
  rintro x w2 ⟨hb2, A2, m2, rfl, hH2, hF2⟩
  simp only [T.val, T.k, T.n, T.s, T.l] at hH2 ⊢
  have F2 := F1.next hb2
  have D2 : Below w2.heap.size w2 (w2.alloc (.cells #[.int .i64 tk, .int .u64 tn, .string ts, .slice A2 tl.length m2] 38)) := (Below.refl _ _).alloc (Nat.le_refl _) _
  have F3 := F2.next D2
  have L1 := Held.lies (t := .mk tk tn ts tl) (w := w2.alloc (.cells #[.int .i64 tk, .int .u64 tn, .string ts, .slice A2 tl.length m2] 38)) (hH2.move (Nat.le_refl _) (Nat.le_refl _) (fun p _ p2 => D2.cell p2)) hF2.1 hF2.2.1 hF2.2.2 (by simp)
  have hf := refFrom_any a b c d e f h (.mk tk tn ts tl) A2 m2 (w2.alloc (.cells #[.int .i64 tk, .int .u64 tn, .string ts, .slice A2 tl.length m2] 38)) L1
  rw [HRR.out] at hf
  simp only [T.k, T.n, T.s, T.l] at hf
  clear L1 hH2 hF2 F1 hb2 c0 c1 c2 c3 c4 c5 c6 l1 l2 b1 k1 lk hu HRR
  obtain ⟨⟨lf, ps, ks⟩, er⟩ := rr
  generalize tl.length = nl at *
  obtain ⟨⟨⟨c0, c1, c2, c3, c4, c5, c6⟩, l1, l2, b1⟩, k1⟩ := id F2
  have lk := k1.lt
  go_wp2_with fail
  clear c0 c1 c2 c3 c4 c5 c6 l1 l2 b1 k1 lk F2
  refine hf.mono ?_
  rintro x w3 ⟨hb3, es3, A3, m3, Q3, q3, rfl, hpe, hE, hK⟩
  simp only at hpe hK ⊢
  have F4 := F3.next hb3
  have hsz := F3.2.lt
  clear F3 hf D2
  obtain ⟨⟨⟨c0, c1, c2, c3, c4, c5, c6⟩, l1, l2, b1⟩, k1⟩ := id F4
  have lk := k1.lt
  generalize hne : es3.length = ne
  generalize hnk : ks.length = nk
  have HNE := vers.lay hne
  have HNK := vers.lay hnk
  clear hne hnk
  have z0 := k1.cell 0
  have z1 := k1.cell 1
  have z2 := k1.cell 2
  simp at z0 z1 z2
  have f0 := k1.frozen 0
  have f1 := k1.frozen 1
  have f2 := k1.frozen 2
  go_wp2_with fail
  refine bodyPost_ret (v := .tuple #[.agg #[.bool lf, .slice A3 ne m3, .slice Q3 nk q3], .int .i64 er]) (by simp [results, Tryz.results7, go_sem, z0, z1, z2]) rfl ?_
  have hfr : Frame w3 (((w3.setCell ⟨w.heap.size + 1, 0, none⟩ (.bool lf)).setCell ⟨w.heap.size + 1, 1, none⟩ (.slice A3 ne m3)).setCell ⟨w.heap.size + 1, 2, none⟩ (.slice Q3 nk q3)) (w2.alloc (.cells #[.int .i64 tk, .int .u64 tn, .string ts, .slice A2 nl m2] 38)).heap.size w3.heap.size := fun p p1 p2 => three_cell _ _ _ _ _ p (by omega)
  refine ⟨three_below b1 (by omega) _ _ _, es3, A3, m3, Q3, q3, by rw [HNE.out, HNK.out], hpe, hE.move (by omega) (by simp) hfr, hK.move (by omega) (by simp) hfr⟩

theorem refOpen_any (a b c d e f h : Int) (key : Int) (s : ByteArray) (w : World) (hs : s.size ≤ maxLen) :
    Calls Tryz.prog 7 #[.agg #[.int .i64 a, .int .i64 b, .int .i64 c, .int .i64 d, .int .i64 e, .int .i64 f, .int .i64 h], .int .u64 key, .string s] w (NAns w (openP a b c d e f h key s)) := by
  unfold openP
  by_cases hk : ok a b c d e f h
  · rw [if_pos hk]
    by_cases hz : (boxes.unpackT key s).2 = 0
    · rw [if_neg (by simpa using hz)]
      exact refOpen_go a b c d e f h key s w hs hk hz _ rfl
    · rw [if_pos hz]
      exact refOpen_bad2 a b c d e f h key s w hs hk _ rfl hz
  · rw [if_neg hk]
    exact refOpen_bad1 a b c d e f h key s w hk

end Go.Proofs.YtanfjnahdnafnaaGreat.nodes
