/- What is asked of package node's own Term; the walk of NodeTerms; letheref06's Seal. -/
import Derived.Test.YtanfjnahdnafnaaNdI
import Derived.Test.YtanfjnahdnafnaaBoxQ


namespace Go.Proofs.Ytanfjnahdnafnaa.nodes
set_option linter.unusedVariables false
set_option linter.unusedSimpArgs false
open Go.RowKit Go.Proofs.Ytanfjnahdnafnaa.base Go.Proofs.Ytanfjnahdnafnaa.quotas Go.Proofs.Ytanfjnahdnafnaa.vers Go.Proofs.Ytanfjnahdnafnaa.tm Go.Proofs.Ytanfjnahdnafnaa.lies Go.Proofs.Ytanfjnahdnafnaa.copies

def TermIs : Prop := ∀ (a b c d e f h : Int) (lf : Bool) (es : List E) (ks : List K) (A : Option Addr) (cap : Nat) (A' : Option Addr) (cap' : Nat) (w : World), Es w w.heap.size es A cap → Ks w w.heap.size ks A' cap' →
  Calls Try.prog 16 #[.agg #[.int .i64 a, .int .i64 b, .int .i64 c, .int .i64 d, .int .i64 e, .int .i64 f, .int .i64 h], .agg #[.bool lf, .slice A es.length cap, .slice A' ks.length cap']] w (boxes.Ans w (termP a b c d e f h lf es ks))

set_option maxRecDepth 100000 in
set_option maxHeartbeats 1000000 in
theorem law_terms (hp : TermIs) (a b c d e f h : Int) (lf : Bool) (es : List E) (ks : List K) (A : Option Addr) (cap : Nat) (A' : Option Addr) (cap' : Nat) (w : World) (hv : Es w w.heap.size es A cap) (hk : Ks w w.heap.size ks A' cap') :
    Calls Try.prog 4 #[.agg #[.int .i64 a, .int .i64 b, .int .i64 c, .int .i64 d, .int .i64 e, .int .i64 f, .int .i64 h], .agg #[.bool lf, .slice A es.length cap, .slice A' ks.length cap']] w fun x w' => x = .returned (.bool true) ∧ Below w.heap.size w w' := by
  have B0 := Bn.new w a b c d e f h lf (.slice A es.length cap) (.slice A' ks.length cap')
  have h1 := fun wr (hb : Below w.heap.size w wr) => hp a b c d e f h lf es ks A cap A' cap' wr (hv.at_world hb) (hk.at_world hb)
  have h2 := fun wr (hb : Below w.heap.size w wr) => refTerm_any a b c d e f h lf es ks A cap A' cap' wr (hv.at_world hb) (hk.at_world hb)
  generalize termP a b c d e f h lf es ks = r at h1 h2
  clear hv hk hp
  generalize es.length = ne at B0 h1 h2 ⊢
  generalize ks.length = nk at B0 h1 h2 ⊢
  obtain ⟨⟨tk, tn, ts, tl⟩, te⟩ := r
  go_enter Try.func4, Try.ntmps4
  go_wp2_with fail
  refine (h1 _ B0.below).mono ?_
  rintro x w1 ⟨hb1, A1, m1, rfl, hH1, hF1⟩
  simp only [T.val, T.k, T.n, T.s, T.l] at hH1 ⊢
  have G1 := B0.next hb1
  clear hb1 B0 h1
  have D1 : Below w1.heap.size w1 (w1.alloc (.cells #[.int .i64 tk, .int .u64 tn, .string ts, .slice A1 tl.length m1] 38)) := (Below.refl _ _).alloc (Nat.le_refl _) _
  have F1 := G1.next D1
  have X1 := Blk.new w1 38 #[.int .i64 tk, .int .u64 tn, .string ts, .slice A1 tl.length m1]
  obtain ⟨⟨⟨c0, c1, c2, c3, c4, c5, c6⟩, l1, l2, b1⟩, ⟨n0, n1, n2⟩, l3⟩ := id G1
  go_wp2_with fail
  clear c0 c1 c2 c3 c4 c5 c6 l1 l2 b1 n0 n1 n2 l3 G1
  refine (h2 _ F1.below).mono ?_
  rintro x w2 ⟨hb2, A2, m2, rfl, hH2, hF2⟩
  simp only [T.val, T.k, T.n, T.s, T.l] at hH2 ⊢
  have G2 := F1.next hb2
  have D2 := D1.trans (hb2.mono D1.size)
  have X2 := X1.below hb2 X1.lt
  clear F1 X1 h2
  have x0 := X2.cell 0
  have x1 := X2.cell 1
  have x2 := X2.cell 2
  have x3 := X2.cell 3
  simp at x0 x1 x2 x3
  have x4 := X2.lt
  have b2 := G2.below
  have D3 : Below w2.heap.size w2 (w2.alloc (.cells #[.int .i64 tk, .int .u64 tn, .string ts, .slice A2 tl.length m2] 38)) := (Below.refl _ _).alloc (Nat.le_refl _) _
  have b3 := b2.trans (D3.mono b2.size)
  have L1 := Held.lies (t := .mk tk tn ts tl) (w := w2.alloc (.cells #[.int .i64 tk, .int .u64 tn, .string ts, .slice A2 tl.length m2] 38)) (hH1.move (Nat.le_refl _) (Nat.le_refl _) (fun p _ p2 => ((D2.trans (D3.mono D2.size)).cell p2))) hF1.1 hF1.2.1 hF1.2.2 (by have := D2.size; simp; omega)
  have L2 := Held.lies (t := .mk tk tn ts tl) (w := w2.alloc (.cells #[.int .i64 tk, .int .u64 tn, .string ts, .slice A2 tl.length m2] 38)) (hH2.move (Nat.le_refl _) (Nat.le_refl _) (fun p _ p2 => D3.cell p2)) hF2.1 hF2.2.1 hF2.2.2 (by simp)
  have hl := likes.like_any _ (.mk tk tn ts tl) _ _ _ (Nat.le_refl _) L1 L2
  clear L1 L2 hH1 hH2 hF1 hF2 D1 D2 D3 hb2 X2 G2
  go_wp2_with fail
  refine hl.mono ?_
  rintro x w3 ⟨rfl, hb3⟩
  go_wp2_with fail
  go_ret
  exact ⟨rfl, b3.trans (hb3.mono b3.size)⟩
end Go.Proofs.Ytanfjnahdnafnaa.nodes
