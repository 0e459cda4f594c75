/- The walk of NodeFroms. -/
import Derived.Test.YtanfjnahdnafnaaNdZ
import Derived.Test.YtanfjnahdnafnaaNdE


namespace Go.Proofs.Ytanfjnahdnafnaa.nodes
set_option linter.unusedVariables false
set_option linter.unusedSimpArgs false
open Go.RowKit Go.Proofs.Ytanfjnahdnafnaa.base Go.Proofs.Ytanfjnahdnafnaa.quotas Go.Proofs.Ytanfjnahdnafnaa.vers Go.Proofs.Ytanfjnahdnafnaa.tm Go.Proofs.Ytanfjnahdnafnaa.lies Go.Proofs.Ytanfjnahdnafnaa.copies Go.Proofs.Ytanfjnahdnafnaa.makes

/-- behind the law's beginning: the quota's box, the term's -/
def Gx (w : World) (a b c d e f h : Int) (t : T) (u : Value) (wr : World) : Prop :=
  In7 w w.heap.size a b c d e f h wr ∧ (wr.cell? ⟨w.heap.size + 1, 0, none⟩ = some (.int .i64 t.k) ∧ wr.cell? ⟨w.heap.size + 1, 1, none⟩ = some (.int .u64 t.n) ∧ wr.cell? ⟨w.heap.size + 1, 2, none⟩ = some (.string t.s) ∧ wr.cell? ⟨w.heap.size + 1, 3, none⟩ = some u) ∧ w.heap.size + 1 < wr.heap.size
theorem Gx.new (w : World) (a b c d e f h : Int) (t : T) (u : Value) : Gx w a b c d e f h t u ((w.alloc (.cells #[.int .i64 a, .int .i64 b, .int .i64 c, .int .i64 d, .int .i64 e, .int .i64 f, .int .i64 h] 23)).alloc (.cells #[.int .i64 t.k, .int .u64 t.n, .string t.s, u] 38)) := by
  have k1 := Blk.new (w.alloc (.cells #[.int .i64 a, .int .i64 b, .int .i64 c, .int .i64 d, .int .i64 e, .int .i64 f, .int .i64 h] 23)) 38 #[.int .i64 t.k, .int .u64 t.n, .string t.s, u]
  simp only [World.size_alloc] at k1
  exact ⟨(In7.new w a b c d e f h).alloc _, ⟨k1.cell 0, k1.cell 1, k1.cell 2, k1.cell 3⟩, by simp⟩
theorem Gx.next {w wr w' : World} {a b c d e f h : Int} {t : T} {u : Value} (h1 : Gx w a b c d e f h t u wr) (hb : Below wr.heap.size wr w') : Gx w a b c d e f h t u w' := by
  obtain ⟨h1, ⟨h2, h3, h5, h6⟩, h4⟩ := h1
  have hs := hb.size
  refine ⟨h1.next hb, ⟨?_, ?_, ?_, ?_⟩, by omega⟩ <;> (rw [hb.cell (by simp; omega)]; assumption)

set_option maxRecDepth 100000 in
set_option maxHeartbeats 1000000 in
theorem law_froms (a b c d e f h : Int) (t : T) (u : Value) (w : World) (hL : Lies w w.heap.size t u) :
    Calls Try.prog 5 #[.agg #[.int .i64 a, .int .i64 b, .int .i64 c, .int .i64 d, .int .i64 e, .int .i64 f, .int .i64 h], T.val t u] w fun x w' => x = .returned (.bool true) ∧ Below w.heap.size w w' := by
  obtain ⟨A, cap, xs, rfl, _⟩ := hL.open_
  have G0 := Gx.new w a b c d e f h t (.slice A t.l.length cap)
  have h1 := fun wr (hb : Below w.heap.size w wr) => from_any a b c d e f h t A cap wr ((Lies.below hL hb).now hb.size)
  have h2 := fun wr (hb : Below w.heap.size w wr) => refFrom_any a b c d e f h t A cap wr ((Lies.below hL hb).now hb.size)
  generalize fromP a b c d e f h t = r at h1 h2
  obtain ⟨⟨lf, ps, ks⟩, er⟩ := r
  clear hL
  unfold T.val
  generalize t.l.length = nl at *
  go_enter Try.func5, Try.ntmps5
  go_wp2_with fail
  refine (h1 _ G0.1.2.2.2).mono ?_
  rintro x w1 ⟨hb1, es1, A1, c1, Q1, m1, rfl, hpe1, hE1, hK1⟩
  simp only at hpe1 hK1 ⊢
  generalize hn1 : es1.length = n1
  generalize hnk : ks.length = nk
  have HN1 := vers.lay hn1
  have HNK := vers.lay hnk
  clear hn1 hnk
  have G1 := G0.next hb1
  have D1 : Below w1.heap.size w1 (w1.alloc (.cells #[.bool lf, .slice A1 n1 c1, .slice Q1 nk m1] 27)) := (Below.refl _ _).alloc (Nat.le_refl _) _
  have G2 := G1.next D1
  have X1 := Nb.new w1 lf (.slice A1 n1 c1) (.slice Q1 nk m1)
  clear G0 hb1 h1
  obtain ⟨⟨⟨q0, q1, q2, q3, q4, q5, q6⟩, l1, l2, b1⟩, ⟨y0, y1, y2, y3⟩, l3⟩ := id G1
  have l4 : w.heap.size < w1.heap.size := by omega
  go_wp2_with fail
  clear q0 q1 q2 q3 q4 q5 q6 l1 l2 b1 y0 y1 y2 y3 l3 l4 G1
  refine (h2 _ G2.1.2.2.2).mono ?_
  rintro x w2 ⟨hb2, es2, A2, c2, Q2, m2, rfl, hpe2, hE2, hK2⟩
  simp only at hpe2 hK2 ⊢
  generalize hn2 : es2.length = n2
  have HN2 := vers.lay hn2
  clear hn2 h2
  have hnk' := HNK.out
  rw [hnk']
  clear hnk'
  have D2 : Below w2.heap.size w2 (w2.alloc (.cells #[.bool lf, .slice A2 n2 c2, .slice Q2 nk m2] 27)) := (Below.refl _ _).alloc (Nat.le_refl _) _
  have X2 := Nb.new w2 lf (.slice A2 n2 c2) (.slice Q2 nk m2)
  have D12 : Below w1.heap.size w1 (w2.alloc (.cells #[.bool lf, .slice A2 n2 c2, .slice Q2 nk m2] 27)) := (D1.trans (hb2.mono D1.size)).trans (D2.mono (Nat.le_trans D1.size hb2.size))
  have G3 := (G2.next hb2).next D2
  have X3 := (X1.next hb2).next D2
  have bw := G3.1.2.2.2
  have hl := likeN_any lf lf es1 es2 ks ks A1 A2 c1 c2 Q1 Q2 m1 m2 (w2.alloc (.cells #[.bool lf, .slice A2 n2 c2, .slice Q2 nk m2] 27)) (hE1 _ _ D12.size (Frame.of_below D12)) (hE2 _ _ D2.size (Frame.of_below D2)) (hK1 _ _ D12.size (Frame.of_below D12)) (hK2 _ _ D2.size (Frame.of_below D2))
  rw [decide_eq_true (show lf = lf ∧ es1.map pe = es2.map pe ∧ ks = ks from ⟨rfl, by rw [hpe1, hpe2], rfl⟩), HN1.out, HN2.out, HNK.out] at hl
  have d1 : (er == er) = true := by simp
  clear G2 G3 X1 hE1 hE2 hK1 hK2 hpe1 hpe2 D1 D2 D12 hb2
  obtain ⟨⟨a0, a1, a2⟩, a3⟩ := X3
  obtain ⟨⟨z0, z1, z2⟩, z3⟩ := X2
  go_wp2_with fail
  refine hl.mono ?_
  rintro x w3 ⟨rfl, hb3⟩
  go_wp2_with fail
  go_ret
  exact ⟨rfl, bw.trans (hb3.mono bw.size)⟩
end Go.Proofs.Ytanfjnahdnafnaa.nodes
