/- The walk of NodeSeals. -/
import Derived.Test.YtanfjnahdnafnaaGreatNeC
import Derived.Test.YtanfjnahdnafnaaGreatNdE


namespace Go.Proofs.YtanfjnahdnafnaaGreat.nodes
set_option linter.unusedVariables false
set_option linter.unusedSimpArgs false
open Go.RowKit Go.Proofs.YtanfjnahdnafnaaGreat.base Go.Proofs.YtanfjnahdnafnaaGreat.quotas Go.Proofs.YtanfjnahdnafnaaGreat.vers Go.Proofs.YtanfjnahdnafnaaGreat.tm Go.Proofs.YtanfjnahdnafnaaGreat.lies Go.Proofs.YtanfjnahdnafnaaGreat.copies Go.Proofs.YtanfjnahdnafnaaGreat.makes

set_option maxRecDepth 100000 in
set_option maxHeartbeats 1000000 in
theorem law_seals (a b c d e f h : Int) (key : Int) (lf : Bool) (es : List E) (ks0 : List K) (A : Option Addr) (cap : Nat) (A' : Option Addr) (cap' : Nat) (s : ByteArray) (w : World) (hk : 0 ≤ key ∧ key < 18446744073709551616) (hv : Es w w.heap.size es A cap) (hks : Ks w w.heap.size ks0 A' cap') (hs : s.size ≤ maxLen) :
    Calls Tryz.prog 3 #[.agg #[.int .i64 a, .int .i64 b, .int .i64 c, .int .i64 d, .int .i64 e, .int .i64 f, .int .i64 h], .int .u64 key, .agg #[.bool lf, .slice A es.length cap, .slice A' ks0.length cap'], .string s] w fun x w' => x = .returned (.bool true) ∧ Below w.heap.size w w' := by
  have B0 := Bn.new w a b c d e f h lf (.slice A es.length cap) (.slice A' ks0.length cap')
  have h1 := fun wr (hb : Below w.heap.size w wr) => ownSeal_any a b c d e f h key lf es ks0 A cap A' cap' wr hk (hv.at_world hb) (hks.at_world hb)
  have h2 := fun wr (hb : Below w.heap.size w wr) => refSeal_any a b c d e f h key lf es ks0 A cap A' cap' wr hk (hv.at_world hb) (hks.at_world hb)
  have h3 := fun wr => ownOpen_any a b c d e f h key s wr hs
  have h4 := fun wr => refOpen_any a b c d e f h key s wr hs
  generalize sealP key (termP a b c d e f h lf es ks0) = ss at h1 h2
  generalize openP a b c d e f h key s = r at h3 h4
  obtain ⟨sb, se⟩ := ss
  obtain ⟨⟨lf2, ps, ks⟩, er⟩ := r
  clear hv hks hs hk
  generalize es.length = ne at *
  generalize ks0.length = nk0 at *
  have d0 : (sb.toList == sb.toList) = true := by simp
  have d1 : (se == se) = true := by simp
  have d2 : (er == er) = true := by simp
  go_enter Tryz.func3, Tryz.ntmps3
  go_wp2_with fail
  refine (h1 _ B0.below).mono ?_
  rintro x w1 ⟨rfl, hb1⟩
  have B1 := B0.next hb1
  clear B0 hb1 h1
  obtain ⟨⟨⟨q0, q1, q2, q3, q4, q5, q6⟩, l1, l2, b1⟩, ⟨y0, y1, y2⟩, l3⟩ := id B1
  go_wp2_with fail
  refine (h2 _ b1).mono ?_
  rintro x w2 ⟨rfl, hb2⟩
  have B2 := B1.next hb2
  clear B1 hb2 h2 q0 q1 q2 q3 q4 q5 q6 l1 l2 b1 y0 y1 y2 l3
  obtain ⟨⟨⟨q0, q1, q2, q3, q4, q5, q6⟩, l1, l2, b1⟩, ⟨y0, y1, y2⟩, l3⟩ := id B2
  go_wp2_with fail
  refine (h3 _).mono ?_
  rintro x w3 ⟨hb3, es1, A1, c1, Q1, m1, rfl, hpe1, hE1, hK1⟩
  simp only at hpe1 hK1 ⊢
  generalize hn1 : es1.length = n1
  generalize hnk : ks.length = nk
  have HN1 := vers.lay hn1
  have HNK := vers.lay hnk
  clear hn1 hnk
  have B3 := B2.next hb3
  have D1 : Below w3.heap.size w3 (w3.alloc (.cells #[.bool lf2, .slice A1 n1 c1, .slice Q1 nk m1] 28)) := (Below.refl _ _).alloc (Nat.le_refl _) _
  have B4 := B3.next D1
  have X1 := Nb.new w3 lf2 (.slice A1 n1 c1) (.slice Q1 nk m1)
  clear B2 hb3 h3 q0 q1 q2 q3 q4 q5 q6 l1 l2 b1 y0 y1 y2 l3
  obtain ⟨⟨⟨q0, q1, q2, q3, q4, q5, q6⟩, l1, l2, b1⟩, ⟨y0, y1, y2⟩, l3⟩ := id B3
  have l4 : w.heap.size < w3.heap.size := by omega
  go_wp2_with fail
  clear q0 q1 q2 q3 q4 q5 q6 l1 l2 b1 y0 y1 y2 l3 l4 B3
  refine (h4 _).mono ?_
  rintro x w4 ⟨hb4, es2, A2, c2, Q2, m2, rfl, hpe2, hE2, hK2⟩
  simp only at hpe2 hK2 ⊢
  generalize hn2 : es2.length = n2
  have HN2 := vers.lay hn2
  clear hn2 h4
  have hnk' := HNK.out
  rw [hnk']
  clear hnk'
  have D2 : Below w4.heap.size w4 (w4.alloc (.cells #[.bool lf2, .slice A2 n2 c2, .slice Q2 nk m2] 28)) := (Below.refl _ _).alloc (Nat.le_refl _) _
  have X2 := Nb.new w4 lf2 (.slice A2 n2 c2) (.slice Q2 nk m2)
  have D12 : Below w3.heap.size w3 (w4.alloc (.cells #[.bool lf2, .slice A2 n2 c2, .slice Q2 nk m2] 28)) := (D1.trans (hb4.mono D1.size)).trans (D2.mono (Nat.le_trans D1.size hb4.size))
  have B5 := (B4.next hb4).next D2
  have X3 := (X1.next hb4).next D2
  have bw := B5.below
  have hl := likeN_any lf2 lf2 es1 es2 ks ks A1 A2 c1 c2 Q1 Q2 m1 m2 (w4.alloc (.cells #[.bool lf2, .slice A2 n2 c2, .slice Q2 nk m2] 28)) (hE1 _ _ D12.size (Frame.of_below D12)) (hE2 _ _ D2.size (Frame.of_below D2)) (hK1 _ _ D12.size (Frame.of_below D12)) (hK2 _ _ D2.size (Frame.of_below D2))
  rw [decide_eq_true (show lf2 = lf2 ∧ es1.map pe = es2.map pe ∧ ks = ks from ⟨rfl, by rw [hpe1, hpe2], rfl⟩), HN1.out, HN2.out, HNK.out] at hl
  clear B4 B5 X1 hE1 hE2 hK1 hK2 hpe1 hpe2 D1 D2 D12 hb4
  obtain ⟨⟨a0, a1, a2⟩, a3⟩ := X3
  obtain ⟨⟨z0, z1, z2⟩, z3⟩ := X2
  go_wp2_with fail
  refine hl.mono ?_
  rintro x w5 ⟨rfl, hb5⟩
  go_wp2_with fail
  go_ret
  exact ⟨rfl, bw.trans (hb5.mono bw.size)⟩
end Go.Proofs.YtanfjnahdnafnaaGreat.nodes
