/- What is asked of package node's own Term; the walk of NodeTerms; letheref06's Seal. -/
import Derived.Test.YtnkfboplafckoaaNdFI
import Derived.Test.YtnkfboplafckoaaBoxQ


namespace Go.Proofs.Ytnkfboplafckoaa.nodes
set_option linter.unusedVariables false
set_option linter.unusedSimpArgs false
open Go.RowKit Go.Proofs.Ytnkfboplafckoaa.base Go.Proofs.Ytnkfboplafckoaa.quotas Go.Proofs.Ytnkfboplafckoaa.vers Go.Proofs.Ytnkfboplafckoaa.tm Go.Proofs.Ytnkfboplafckoaa.lies Go.Proofs.Ytnkfboplafckoaa.copies

def TermIs : Prop := ∀ (a b c d e f h : Int) (lf : Bool) (es : List E) (ks : List K) (A : Option Addr) (cap : Nat) (A' : Option Addr) (cap' : Nat) (w : World), Es w w.heap.size es A cap → Ks w w.heap.size ks A' cap' →
  Calls Try.prog 5 #[.agg #[.int .i64 a, .int .i64 b, .int .i64 c, .int .i64 d, .int .i64 e, .int .i64 f, .int .i64 h], .agg #[.bool lf, .slice A es.length cap, .slice A' ks.length cap']] w (boxes.Ans w (termP a b c d e f h lf es ks))

end Go.Proofs.Ytnkfboplafckoaa.nodes

/- letheref06's Seal. -/

namespace Go.Proofs.Ytnkfboplafckoaa.nodes
set_option linter.unusedVariables false
set_option linter.unusedSimpArgs false
open Go.RowKit Go.Proofs.Ytnkfboplafckoaa.base Go.Proofs.Ytnkfboplafckoaa.quotas Go.Proofs.Ytnkfboplafckoaa.vers Go.Proofs.Ytnkfboplafckoaa.tm Go.Proofs.Ytnkfboplafckoaa.lies Go.Proofs.Ytnkfboplafckoaa.copies

/-- a node's sealed bytes, or why there are none -/
def sealP (key : Int) (r : T × Int) : ByteArray × Int := if r.2 ≠ 0 then (⟨#[]⟩, r.2) else boxes.packT key r.1

set_option maxRecDepth 100000 in
set_option maxHeartbeats 1000000 in
theorem refSeal_any (a b c d e f h : Int) (key : Int) (lf : Bool) (es : List E) (ks : List K) (A : Option Addr) (cap : Nat) (A' : Option Addr) (cap' : Nat) (w : World) (hk : 0 ≤ key ∧ key < 18446744073709551616) (hv : Es w w.heap.size es A cap) (hks : Ks w w.heap.size ks A' cap') :
    Calls Try.prog 12 #[.agg #[.int .i64 a, .int .i64 b, .int .i64 c, .int .i64 d, .int .i64 e, .int .i64 f, .int .i64 h], .int .u64 key, .agg #[.bool lf, .slice A es.length cap, .slice A' ks.length cap']] w fun x w' => x = .returned (.tuple #[.string (sealP key (termP a b c d e f h lf es ks)).1, .int .i64 (sealP key (termP a b c d e f h lf es ks)).2]) ∧ Below w.heap.size w w' := by
  have B0 := Bn.new w a b c d e f h lf (.slice A es.length cap) (.slice A' ks.length cap')
  have h2 := fun wr (hb : Below w.heap.size w wr) => refTerm_any a b c d e f h lf es ks A cap A' cap' wr (hv.at_world hb) (hks.at_world hb)
  generalize termP a b c d e f h lf es ks = r at h2 ⊢
  clear hv hks
  generalize es.length = ne at B0 h2 ⊢
  generalize ks.length = nk at B0 h2 ⊢
  obtain ⟨⟨tk, tn, ts, tl⟩, te⟩ := r
  by_cases hz : te = 0
  · subst hz
    have hs : sealP key (T.mk tk tn ts tl, 0) = boxes.packT key (T.mk tk tn ts tl) := by unfold sealP; rw [if_neg (by simp)]
    rw [hs]
    clear hs
    go_enter Try.func12, Try.ntmps12
    go_wp2_with fail
    refine (h2 _ B0.below).mono ?_
    rintro x w1 ⟨hb1, A1, m1, rfl, hH1, hF1⟩
    simp only [T.val, T.k, T.n, T.s, T.l] at hH1 ⊢
    have G1 := B0.next hb1
    have b1 := G1.below
    have D1 : Below w1.heap.size w1 (w1.alloc (.cells #[.int .i64 tk, .int .u64 tn, .string ts, .slice A1 tl.length m1] 31)) := (Below.refl _ _).alloc (Nat.le_refl _) _
    have b2 := b1.trans (D1.mono b1.size)
    have L1 := Held.lies (t := .mk tk tn ts tl) (w := w1.alloc (.cells #[.int .i64 tk, .int .u64 tn, .string ts, .slice A1 tl.length m1] 31)) (hH1.move (Nat.le_refl _) (Nat.le_refl _) (fun p _ p2 => D1.cell p2)) hF1.1 hF1.2.1 hF1.2.2 (by simp)
    have hl := boxes.refPack_any key (.mk tk tn ts tl) _ _ hk L1
    generalize hr : boxes.packT key (.mk tk tn ts tl) = r at hl ⊢
    have HR := vers.lay hr
    clear hr
    clear L1 hH1 hF1 D1 hb1 B0 G1 h2
    go_wp2_with fail
    refine hl.mono ?_
    rintro x w3 ⟨rfl, hb3⟩
    go_wp2_with fail
    go_ret2
    exact ⟨by rw [HR.out]; rfl, b2.trans (hb3.mono b2.size)⟩
  · have hs : sealP key (T.mk tk tn ts tl, te) = (⟨#[]⟩, te) := by unfold sealP; rw [if_pos hz]
    rw [hs]
    have d1 : (te != 0) = true := by simpa using hz
    clear hs hz
    go_enter Try.func12, Try.ntmps12
    go_wp2_with fail
    refine (h2 _ B0.below).mono ?_
    rintro x w1 ⟨hb1, A1, m1, rfl, hH1, hF1⟩
    simp only [T.val, T.k, T.n, T.s, T.l] at hH1 ⊢
    have G1 := B0.next hb1
    have b1 := G1.below
    have D1 : Below w1.heap.size w1 (w1.alloc (.cells #[.int .i64 tk, .int .u64 tn, .string ts, .slice A1 tl.length m1] 31)) := (Below.refl _ _).alloc (Nat.le_refl _) _
    clear hH1 hF1
    go_wp2_with fail
    go_ret2
    exact ⟨rfl, b1.trans (D1.mono b1.size)⟩
end Go.Proofs.Ytnkfboplafckoaa.nodes
