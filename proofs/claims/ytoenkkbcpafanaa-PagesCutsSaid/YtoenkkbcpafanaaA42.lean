/- pages.New; PagesMade. -/
import Derived.Test.YtoenkkbcpafanaaA16
import Derived.Test.YtoenkkbcpafanaaA25
import Derived.Test.YtoenkkbcpafanaaA15
import Derived.Test.YtoenkkbcpafanaaA03


namespace Go.Proofs.Ytoenkkbcpafanaa.pags
set_option linter.unusedVariables false
set_option linter.unusedSimpArgs false
open Go.RowKit Go.Proofs.Ytoenkkbcpafanaa.base Go.Proofs.Ytoenkkbcpafanaa.trees Go.Proofs.Ytoenkkbcpafanaa.quotas Go.Proofs.Ytoenkkbcpafanaa.mediums Go.Proofs.Ytoenkkbcpafanaa.segs Go.Proofs.Ytoenkkbcpafanaa.caches Go.Proofs.Ytoenkkbcpafanaa.dice Go.Lib

set_option maxRecDepth 100000 in
set_option maxHeartbeats 4000000 in
theorem pnew_no (a b c d e f h : Int) (l cc dd : Option Addr) (w : World) (hk : ¬ ok a b c d e f h) :
    Calls Try.prog 57 #[.agg #[.int .i64 a, .int .i64 b, .int .i64 c, .int .i64 d, .int .i64 e, .int .i64 f, .int .i64 h], .pointer l, .pointer cc, .pointer dd] w fun x w' => x = .returned (.tuple #[.pointer none, .int .i64 40]) ∧ Below w.heap.size w w' := by
  have b0 : Below w.heap.size w (w.alloc (.cells #[.int .i64 a, .int .i64 b, .int .i64 c, .int .i64 d, .int .i64 e, .int .i64 f, .int .i64 h] 113)) := (Below.refl _ _).alloc (Nat.le_refl _) _
  have hr := right_no a b c d e f h (w.alloc (.cells #[.int .i64 a, .int .i64 b, .int .i64 c, .int .i64 d, .int .i64 e, .int .i64 f, .int .i64 h] 113)) hk
  clear hk
  go_enter Try.func57, Try.ntmps57
  go_wp2_with (go_at_call 123; refine hr.mono ?_; rintro x w1 ⟨rfl, hb1⟩)
  refine bodyPost_ret (v := .tuple #[.pointer none, .int .i64 40]) (by simp [results, Try.results57, go_sem]) rfl ⟨rfl, b0.trans (hb1.mono b0.size)⟩
set_option maxRecDepth 100000 in
set_option maxHeartbeats 4000000 in
theorem pnew_nil_l (a b c d e f h : Int) (cc dd : Option Addr) (w : World) (hk : ok a b c d e f h) :
    Calls Try.prog 57 #[.agg #[.int .i64 a, .int .i64 b, .int .i64 c, .int .i64 d, .int .i64 e, .int .i64 f, .int .i64 h], .pointer none, .pointer cc, .pointer dd] w fun x w' => x = .returned (.tuple #[.pointer none, .int .i64 1]) ∧ Below w.heap.size w w' := by
  have b0 : Below w.heap.size w (w.alloc (.cells #[.int .i64 a, .int .i64 b, .int .i64 c, .int .i64 d, .int .i64 e, .int .i64 f, .int .i64 h] 113)) := (Below.refl _ _).alloc (Nat.le_refl _) _
  have hr := right_ok a b c d e f h (w.alloc (.cells #[.int .i64 a, .int .i64 b, .int .i64 c, .int .i64 d, .int .i64 e, .int .i64 f, .int .i64 h] 113)) hk
  clear hk
  go_enter Try.func57, Try.ntmps57
  go_wp2_with (go_at_call 123; refine hr.mono ?_; rintro x w1 ⟨rfl, hb1⟩)
  refine bodyPost_ret (v := .tuple #[.pointer none, .int .i64 1]) (by simp [results, Try.results57, go_sem]) rfl ⟨rfl, b0.trans (hb1.mono b0.size)⟩
set_option maxRecDepth 100000 in
set_option maxHeartbeats 4000000 in
theorem pnew_nil_c (a b c d e f h : Int) (l : Addr) (dd : Option Addr) (w : World) (hk : ok a b c d e f h) :
    Calls Try.prog 57 #[.agg #[.int .i64 a, .int .i64 b, .int .i64 c, .int .i64 d, .int .i64 e, .int .i64 f, .int .i64 h], .pointer (some l), .pointer none, .pointer dd] w fun x w' => x = .returned (.tuple #[.pointer none, .int .i64 1]) ∧ Below w.heap.size w w' := by
  have b0 : Below w.heap.size w (w.alloc (.cells #[.int .i64 a, .int .i64 b, .int .i64 c, .int .i64 d, .int .i64 e, .int .i64 f, .int .i64 h] 113)) := (Below.refl _ _).alloc (Nat.le_refl _) _
  have hr := right_ok a b c d e f h (w.alloc (.cells #[.int .i64 a, .int .i64 b, .int .i64 c, .int .i64 d, .int .i64 e, .int .i64 f, .int .i64 h] 113)) hk
  clear hk
  go_enter Try.func57, Try.ntmps57
  go_wp2_with (go_at_call 123; refine hr.mono ?_; rintro x w1 ⟨rfl, hb1⟩)
  refine bodyPost_ret (v := .tuple #[.pointer none, .int .i64 1]) (by simp [results, Try.results57, go_sem]) rfl ⟨rfl, b0.trans (hb1.mono b0.size)⟩
set_option maxRecDepth 100000 in
set_option maxHeartbeats 4000000 in
theorem pnew_nil_d (a b c d e f h : Int) (l cc : Addr) (w : World) (hk : ok a b c d e f h) :
    Calls Try.prog 57 #[.agg #[.int .i64 a, .int .i64 b, .int .i64 c, .int .i64 d, .int .i64 e, .int .i64 f, .int .i64 h], .pointer (some l), .pointer (some cc), .pointer none] w fun x w' => x = .returned (.tuple #[.pointer none, .int .i64 1]) ∧ Below w.heap.size w w' := by
  have b0 : Below w.heap.size w (w.alloc (.cells #[.int .i64 a, .int .i64 b, .int .i64 c, .int .i64 d, .int .i64 e, .int .i64 f, .int .i64 h] 113)) := (Below.refl _ _).alloc (Nat.le_refl _) _
  have hr := right_ok a b c d e f h (w.alloc (.cells #[.int .i64 a, .int .i64 b, .int .i64 c, .int .i64 d, .int .i64 e, .int .i64 f, .int .i64 h] 113)) hk
  clear hk
  go_enter Try.func57, Try.ntmps57
  go_wp2_with (go_at_call 123; refine hr.mono ?_; rintro x w1 ⟨rfl, hb1⟩)
  refine bodyPost_ret (v := .tuple #[.pointer none, .int .i64 1]) (by simp [results, Try.results57, go_sem]) rfl ⟨rfl, b0.trans (hb1.mono b0.size)⟩
set_option maxRecDepth 100000 in
set_option maxHeartbeats 4000000 in
theorem pnew_ok (a b c d e f h : Int) (l cc dd : Addr) (w : World) (hk : ok a b c d e f h) :
    Calls Try.prog 57 #[.agg #[.int .i64 a, .int .i64 b, .int .i64 c, .int .i64 d, .int .i64 e, .int .i64 f, .int .i64 h], .pointer (some l), .pointer (some cc), .pointer (some dd)] w fun x w' => ∃ pp, x = .returned (.tuple #[.pointer (some ⟨pp, 0, none⟩), .int .i64 0]) ∧ w.heap.size ≤ pp ∧ Blk w' pp 127 #[.pointer (some l), .pointer (some cc), .pointer (some dd), .int .i64 a, .int .i64 b, .int .i64 c, .int .i64 d, .int .i64 e, .int .i64 f, .int .i64 h] ∧ Below w.heap.size w w' := by
  have b0 : Below w.heap.size w (w.alloc (.cells #[.int .i64 a, .int .i64 b, .int .i64 c, .int .i64 d, .int .i64 e, .int .i64 f, .int .i64 h] 113)) := (Below.refl _ _).alloc (Nat.le_refl _) _
  have k0 := Blk.new w 113 #[.int .i64 a, .int .i64 b, .int .i64 c, .int .i64 d, .int .i64 e, .int .i64 f, .int .i64 h]
  have hr := right_ok a b c d e f h (w.alloc (.cells #[.int .i64 a, .int .i64 b, .int .i64 c, .int .i64 d, .int .i64 e, .int .i64 f, .int .i64 h] 113)) hk
  clear hk
  go_enter Try.func57, Try.ntmps57
  go_wp2_with (go_at_call 123; refine hr.mono ?_; rintro x w1 ⟨rfl, hb1⟩; have k1 := k0.below hb1 k0.lt; obtain ⟨g0, g1, g2, g3, g4, g5, g6⟩ : w1.cell? ⟨w.heap.size, 0, none⟩ = _ ∧ w1.cell? ⟨w.heap.size, 1, none⟩ = _ ∧ w1.cell? ⟨w.heap.size, 2, none⟩ = _ ∧ w1.cell? ⟨w.heap.size, 3, none⟩ = _ ∧ w1.cell? ⟨w.heap.size, 4, none⟩ = _ ∧ w1.cell? ⟨w.heap.size, 5, none⟩ = _ ∧ w1.cell? ⟨w.heap.size, 6, none⟩ = _ := ⟨k1.cell 0, k1.cell 1, k1.cell 2, k1.cell 3, k1.cell 4, k1.cell 5, k1.cell 6⟩; simp only [List.getElem?_toArray, List.getElem?_cons_zero, List.getElem?_cons_succ] at g0 g1 g2 g3 g4 g5 g6; have s1 := hb1.size)
  have hb2 := b0.trans (hb1.mono b0.size)
  refine bodyPost_ret (v := .tuple #[.pointer (some ⟨w1.heap.size, 0, none⟩), .int .i64 0]) (by simp [results, Try.results57, go_sem]) rfl ⟨_, rfl, by have := hb2.size; omega, Blk.new w1 _ _, hb2.alloc hb2.size _⟩
end Go.Proofs.Ytoenkkbcpafanaa.pags
