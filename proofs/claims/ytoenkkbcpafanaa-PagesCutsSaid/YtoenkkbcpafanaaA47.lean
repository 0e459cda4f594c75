/- An argument that is a quota, opened: seven integers. -/
import Derived.Test.YtoenkkbcpafanaaA03
import Derived.Lib.SmallJoins
import Derived.SizedLaws
import Derived.ProofKit
import Derived.OpenShut


namespace Go.Proofs.Ytoenkkbcpafanaa.quotas
set_option linter.unusedVariables false
set_option linter.unusedSimpArgs false
open Go.RowKit Go.ChangeShapes Go.WideShapes Go.Proofs.Ytoenkkbcpafanaa.base

theorem cells7 : Try.prog.cellsOf 113 = 7 := by kernel_rfl
theorem cells1 : Try.prog.cellsOf 3 = 1 := by kernel_rfl

section
variable {H : Type} {enc : TypeId × Value → H} {W : World}
set_option maxRecDepth 100000 in
/-- a quota that came in -/
theorem open_quota {r : Reach} {b0 : Nat} {v : Value} {d : DataW H} {p : List MemPlace} (hv : Value.okWide Try.prog W r b0 113 v) (h : DataW.Trod enc Try.prog W 0 (fun _ => true) true 113 v d p) :
    ∃ a b c d e f g : Int, v = .agg #[.int .i64 a, .int .i64 b, .int .i64 c, .int .i64 d, .int .i64 e, .int .i64 f, .int .i64 g] := by
  obtain ⟨cs, rfl, _⟩ := okWide_struct Try.underlying113 hv
  obtain ⟨m, hm⟩ := h
  have hc : (Value.agg cs).cells.toList = cs.toList := by simp [Value.cells]
  rw [hc] at hm
  obtain ⟨ys, n, hn, hx, hlen, hyl, hf⟩ := DataW.trod_struct Try.underlying113 hm
  rw [cells7] at hlen
  obtain ⟨l⟩ := cs
  simp only at hlen hf ⊢
  match l, hlen, ys, hyl with
  | [c0, c1, c2, c3, c4, c5, c6], _, [y0, y1, y2, y3, y4, y5, y6], _ =>
    have f0 : DataW.trod enc Try.prog W 0 (fun _ => true) true n 3 (List.take (Try.prog.cellsOf 3) (List.drop 0 [c0, c1, c2, c3, c4, c5, c6])) = some y0 := hf 0 _ rfl
    rw [cells1] at f0
    obtain ⟨k0, e0, _, _⟩ := DataW.trod_int Try.underlying3 f0
    have f1 : DataW.trod enc Try.prog W 0 (fun _ => true) true n 3 (List.take (Try.prog.cellsOf 3) (List.drop 1 [c0, c1, c2, c3, c4, c5, c6])) = some y1 := hf 1 _ rfl
    rw [cells1] at f1
    obtain ⟨k1, e1, _, _⟩ := DataW.trod_int Try.underlying3 f1
    have f2 : DataW.trod enc Try.prog W 0 (fun _ => true) true n 3 (List.take (Try.prog.cellsOf 3) (List.drop 2 [c0, c1, c2, c3, c4, c5, c6])) = some y2 := hf 2 _ rfl
    rw [cells1] at f2
    obtain ⟨k2, e2, _, _⟩ := DataW.trod_int Try.underlying3 f2
    have f3 : DataW.trod enc Try.prog W 0 (fun _ => true) true n 3 (List.take (Try.prog.cellsOf 3) (List.drop 3 [c0, c1, c2, c3, c4, c5, c6])) = some y3 := hf 3 _ rfl
    rw [cells1] at f3
    obtain ⟨k3, e3, _, _⟩ := DataW.trod_int Try.underlying3 f3
    have f4 : DataW.trod enc Try.prog W 0 (fun _ => true) true n 3 (List.take (Try.prog.cellsOf 3) (List.drop 4 [c0, c1, c2, c3, c4, c5, c6])) = some y4 := hf 4 _ rfl
    rw [cells1] at f4
    obtain ⟨k4, e4, _, _⟩ := DataW.trod_int Try.underlying3 f4
    have f5 : DataW.trod enc Try.prog W 0 (fun _ => true) true n 3 (List.take (Try.prog.cellsOf 3) (List.drop 5 [c0, c1, c2, c3, c4, c5, c6])) = some y5 := hf 5 _ rfl
    rw [cells1] at f5
    obtain ⟨k5, e5, _, _⟩ := DataW.trod_int Try.underlying3 f5
    have f6 : DataW.trod enc Try.prog W 0 (fun _ => true) true n 3 (List.take (Try.prog.cellsOf 3) (List.drop 6 [c0, c1, c2, c3, c4, c5, c6])) = some y6 := hf 6 _ rfl
    rw [cells1] at f6
    obtain ⟨k6, e6, _, _⟩ := DataW.trod_int Try.underlying3 f6
    simp at e0 e1 e2 e3 e4 e5 e6
    subst e0 e1 e2 e3 e4 e5 e6
    exact ⟨k0, k1, k2, k3, k4, k5, k6, rfl⟩
end
end Go.Proofs.Ytoenkkbcpafanaa.quotas
