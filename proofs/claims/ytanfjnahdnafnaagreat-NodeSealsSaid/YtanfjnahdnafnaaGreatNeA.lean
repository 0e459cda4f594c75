/- The walk of NodeFroms. -/
import Derived.Test.YtanfjnahdnafnaaGreatNdZ
import Derived.Test.YtanfjnahdnafnaaGreatNdE


namespace Go.Proofs.YtanfjnahdnafnaaGreat.nodes
set_option linter.unusedVariables false
set_option linter.unusedSimpArgs false
open Go.RowKit Go.Proofs.YtanfjnahdnafnaaGreat.base Go.Proofs.YtanfjnahdnafnaaGreat.quotas Go.Proofs.YtanfjnahdnafnaaGreat.vers Go.Proofs.YtanfjnahdnafnaaGreat.tm Go.Proofs.YtanfjnahdnafnaaGreat.lies Go.Proofs.YtanfjnahdnafnaaGreat.copies Go.Proofs.YtanfjnahdnafnaaGreat.makes

/-- behind the law's beginning: the quota's box, the term's -/
def Gx (w : World) (a b c d e f h : Int) (t : T) (u : Value) (wr : World) : Prop :=
  In7 w w.heap.size a b c d e f h wr ∧ (wr.cell? ⟨w.heap.size + 1, 0, none⟩ = some (.int .i64 t.k) ∧ wr.cell? ⟨w.heap.size + 1, 1, none⟩ = some (.int .u64 t.n) ∧ wr.cell? ⟨w.heap.size + 1, 2, none⟩ = some (.string t.s) ∧ wr.cell? ⟨w.heap.size + 1, 3, none⟩ = some u) ∧ w.heap.size + 1 < wr.heap.size
theorem Gx.new (w : World) (a b c d e f h : Int) (t : T) (u : Value) : Gx w a b c d e f h t u ((w.alloc (.cells #[.int .i64 a, .int .i64 b, .int .i64 c, .int .i64 d, .int .i64 e, .int .i64 f, .int .i64 h] 23)).alloc (.cells #[.int .i64 t.k, .int .u64 t.n, .string t.s, u] 38)) := by
  have k1 := Blk.new (w.alloc (.cells #[.int .i64 a, .int .i64 b, .int .i64 c, .int .i64 d, .int .i64 e, .int .i64 f, .int .i64 h] 23)) 38 #[.int .i64 t.k, .int .u64 t.n, .string t.s, u]
  simp only [World.size_alloc] at k1
  exact ⟨(In7.new w a b c d e f h).alloc _, ⟨k1.cell 0, k1.cell 1, k1.cell 2, k1.cell 3⟩, by simp⟩
theorem Gx.next {w wr w' : World} {a b c d e f h : Int} {t : T} {u : Value} (h1 : Gx w a b c d e f h t u wr) (hb : Below wr.heap.size wr w') : Gx w a b c d e f h t u w' := by
  obtain ⟨h1, ⟨h2, h3, h5, h6⟩, h4⟩ := h1
  have hs := hb.size
  refine ⟨h1.next hb, ⟨?_, ?_, ?_, ?_⟩, by omega⟩ <;> (rw [hb.cell (by simp; omega)]; assumption)

end Go.Proofs.YtanfjnahdnafnaaGreat.nodes
