/- A medium's small methods: has, Used, Count, Segments, Size, Read, New. -/
import Derived.Test.YtoenkkbcpafanaaMdA
import Derived.Test.YtoenkkbcpafanaaProg
import Derived.Laws.MakeOwn


namespace Go.Proofs.Ytoenkkbcpafanaa.mediums
set_option linter.unusedVariables false
set_option linter.unusedSimpArgs false
open Go.RowKit Go.Proofs.Ytoenkkbcpafanaa.base Go.Proofs.Ytoenkkbcpafanaa.trees Go.Proofs.Ytoenkkbcpafanaa.powers Go.Lib

theorem infoU8 : (Try.prog.info? 5).map (fun i => (i.zero, i.size, i.bytes)) = some (some (.int .u8 0), 1, 1) := by kernel_rfl
theorem infoSl : (Try.prog.info? 260).map (fun i => (i.zero, i.size, i.bytes)) = some (some (.slice none 0 0), 1, 24) := by kernel_rfl
theorem infoRw : (Try.prog.info? 263).map (fun i => (i.zero, i.size, i.bytes)) = some (some (.agg #[.int .i64 0, .int .i64 0, .string ⟨#[]⟩]), 3, 32) := by kernel_rfl

section
variable {w : World} {S : Nat → Prop} {p g : Nat} {m : MS} {sb : Nat} {vs : List Value} {vp : Value}
theorem MdAt.seg (h : MdAt w S p g m sb vs vp) {j : Nat} (hj : j < vs.length) : ∃ A c, vs[j] = .slice A (m.at_ j).size c ∧ (m.at_ j).size ≤ c ∧ (A = none → c = 0) ∧ RdF w (fun k => vs[j].ownBlock = some k) A (strCells (m.at_ j)) ∧ w.cell? ⟨sb, j, none⟩ = some (.slice A (m.at_ j).size c) := by
  obtain ⟨A, c, e, h1, h2, h3⟩ := row_rdF (h.segs j hj)
  refine ⟨A, c, e, h1, h2, h3, ?_⟩
  have h4 := h.row.cell j
  rw [List.getElem?_toArray, List.getElem?_eq_getElem hj, e] at h4
  exact h4
theorem MdAt.seg_le (h : MdAt w S p g m sb vs vp) {j : Nat} (hj : j < vs.length) : (m.at_ j).size ≤ m.size := h.bnd.2.2.1 j

set_option maxRecDepth 100000 in
set_option maxHeartbeats 2000000 in
theorem has_ok (h : MdAt w S p g m sb vs vp) (sg : Int) :
    Calls Try.prog 160 #[.pointer (some ⟨g, 0, none⟩), .int .i64 sg] w fun e w' => e = .returned (.bool (decide (0 ≤ sg ∧ sg < (vs.length : Int)))) ∧ w' = w := by
  have x0 := h.head.cell 0
  have x1 := h.head.cell 1
  have x2 := h.head.cell 2
  have x3 := h.head.cell 3
  simp only [List.getElem?_toArray, List.getElem?_cons_zero, List.getElem?_cons_succ] at x0 x1 x2 x3
  have n1 := h.bnd.2.1.1
  have n2 := h.bnd.2.1.2
  clear h
  generalize vs.length = n at *
  by_cases h0 : 0 ≤ sg
  · by_cases h1 : sg < (n : Int)
    · go_enter Try.func160, Try.ntmps160
      go_wp2_with fail
      go_ret
      exact ⟨by simp [h0, h1], rfl⟩
    · go_enter Try.func160, Try.ntmps160
      go_wp2_with fail
      go_ret
      exact ⟨by simp [h0, h1], rfl⟩
  · have HH : ¬ (0 ≤ sg ∧ sg < (n : Int)) := fun h => h0 h.1
    go_enter Try.func160, Try.ntmps160
    go_wp2_with fail
    go_ret
    exact ⟨by first | rfl | (rw [decide_eq_false HH]; rfl), rfl⟩
theorem has_yes (h : MdAt w S p g m sb vs vp) (j : Nat) (hj : j < vs.length) :
    Calls Try.prog 160 #[.pointer (some ⟨g, 0, none⟩), .int .i64 (j : Int)] w fun e w' => e = .returned (.bool true) ∧ w' = w := by
  have := has_ok h (j : Int)
  rwa [decide_eq_true (by omega)] at this
theorem has_no (h : MdAt w S p g m sb vs vp) (sg : Int) (hj : ¬ (0 ≤ sg ∧ sg < (vs.length : Int))) :
    Calls Try.prog 160 #[.pointer (some ⟨g, 0, none⟩), .int .i64 sg] w fun e w' => e = .returned (.bool false) ∧ w' = w := by
  have := has_ok h sg
  rwa [decide_eq_false hj] at this

set_option maxRecDepth 100000 in
set_option maxHeartbeats 2000000 in
theorem used_yes (h : MdAt w S p g m sb vs vp) (j : Nat) (hj : j < vs.length) :
    Calls Try.prog 109 #[.pointer (some ⟨g, 0, none⟩), .int .i64 (j : Int)] w fun e w' => e = .returned (.int .i64 ((m.at_ j).size : Int)) ∧ w' = w := by
  obtain ⟨A, c, e, h1, h2, h3, hc⟩ := h.seg hj
  have hz := has_yes h j hj
  have x0 := h.head.cell 0
  have x1 := h.head.cell 1
  have x2 := h.head.cell 2
  have x3 := h.head.cell 3
  simp only [List.getElem?_toArray, List.getElem?_cons_zero, List.getElem?_cons_succ] at x0 x1 x2 x3
  have n1 := h.bnd.2.1.1
  have n2 := h.bnd.2.1.2
  generalize m.at_ j = s at *
  clear h e h3
  go_enter Try.func109, Try.ntmps109
  go_wp2_with fail
  refine hz.mono ?_
  rintro e w' ⟨rfl, rfl⟩
  go_wp2_with fail
  go_ret
  exact ⟨rfl, rfl⟩

set_option maxRecDepth 100000 in
set_option maxHeartbeats 2000000 in
theorem used_no (h : MdAt w S p g m sb vs vp) (sg : Int) (hj : ¬ (0 ≤ sg ∧ sg < (vs.length : Int))) :
    Calls Try.prog 109 #[.pointer (some ⟨g, 0, none⟩), .int .i64 sg] w fun e w' => e = .returned (.int .i64 0) ∧ w' = w := by
  have hz := has_no h sg hj
  go_enter Try.func109, Try.ntmps109
  go_wp2_with fail
  refine hz.mono ?_
  rintro e w' ⟨rfl, rfl⟩
  go_wp2_with fail
  go_ret
  exact ⟨rfl, rfl⟩

set_option maxRecDepth 100000 in
set_option maxHeartbeats 2000000 in
theorem count_ok (h : MdAt w S p g m sb vs vp) :
    Calls Try.prog 68 #[.pointer (some ⟨g, 0, none⟩)] w fun e w' => e = .returned (.int .i64 (m.past.length : Int)) ∧ w' = w := by
  obtain ⟨A, c, rfl, h1, h2, h3⟩ := row_rdF h.past
  have x0 := h.head.cell 0
  have x1 := h.head.cell 1
  have x2 := h.head.cell 2
  have x3 := h.head.cell 3
  simp only [List.getElem?_toArray, List.getElem?_cons_zero, List.getElem?_cons_succ] at x0 x1 x2 x3
  have n1 := h.bnd.2.1.1
  have n2 := h.bnd.2.1.2
  clear h h3
  go_enter Try.func68, Try.ntmps68
  go_wp2_with fail
  go_ret
  exact ⟨rfl, rfl⟩

set_option maxRecDepth 100000 in
set_option maxHeartbeats 2000000 in
theorem segments_ok (h : MdAt w S p g m sb vs vp) :
    Calls Try.prog 59 #[.pointer (some ⟨g, 0, none⟩)] w fun e w' => e = .returned (.int .i64 (vs.length : Int)) ∧ w' = w := by
  obtain ⟨A, c, rfl, h1, h2, h3⟩ := row_rdF h.past
  have x0 := h.head.cell 0
  have x1 := h.head.cell 1
  have x2 := h.head.cell 2
  have x3 := h.head.cell 3
  simp only [List.getElem?_toArray, List.getElem?_cons_zero, List.getElem?_cons_succ] at x0 x1 x2 x3
  have n1 := h.bnd.2.1.1
  have n2 := h.bnd.2.1.2
  clear h h3
  go_enter Try.func59, Try.ntmps59
  go_wp2_with fail
  go_ret
  exact ⟨rfl, rfl⟩

set_option maxRecDepth 100000 in
set_option maxHeartbeats 2000000 in
theorem size_ok (h : MdAt w S p g m sb vs vp) :
    Calls Try.prog 201 #[.pointer (some ⟨g, 0, none⟩)] w fun e w' => e = .returned (.int .i64 (m.size : Int)) ∧ w' = w := by
  obtain ⟨A, c, rfl, h1, h2, h3⟩ := row_rdF h.past
  have x0 := h.head.cell 0
  have x1 := h.head.cell 1
  have x2 := h.head.cell 2
  have x3 := h.head.cell 3
  simp only [List.getElem?_toArray, List.getElem?_cons_zero, List.getElem?_cons_succ] at x0 x1 x2 x3
  have n1 := h.bnd.2.1.1
  have n2 := h.bnd.2.1.2
  clear h h3
  go_enter Try.func201, Try.ntmps201
  go_wp2_with fail
  go_ret
  exact ⟨rfl, rfl⟩

set_option maxRecDepth 100000 in
set_option maxHeartbeats 2000000 in
theorem read_no (h : MdAt w S p g m sb vs vp) (sg o n : Int) (hj : ¬ (0 ≤ sg ∧ sg < (vs.length : Int))) :
    Calls Try.prog 302 #[.pointer (some ⟨g, 0, none⟩), .int .i64 sg, .int .i64 o, .int .i64 n] w fun e w' => e = .returned (.tuple #[.string ⟨#[]⟩, .int .i64 120]) ∧ w' = w := by
  have hz := has_no h sg hj
  go_enter Try.func302, Try.ntmps302
  go_wp2_with (first | (go_at_call 160; refine hz.mono ?_; rintro e w' ⟨rfl, rfl⟩))
  refine bodyPost_ret (v := .tuple #[.string ⟨#[]⟩, .int .i64 120]) (by simp [results, Try.results302, go_sem]) rfl ⟨rfl, rfl⟩

set_option maxRecDepth 100000 in
set_option maxHeartbeats 2000000 in
theorem read_ok (h : MdAt w S p g m sb vs vp) (j : Nat) (hj : j < vs.length) (o n : Nat) (hon : o + n ≤ (m.at_ j).size) :
    Calls Try.prog 302 #[.pointer (some ⟨g, 0, none⟩), .int .i64 (j : Int), .int .i64 (o : Int), .int .i64 (n : Int)] w fun e w' => e = .returned (.tuple #[.string ((m.at_ j).extract o (o + n)), .int .i64 0]) ∧ w' = w := by
  have hz := has_yes h j hj
  have hu := used_yes h j hj
  have hle := h.seg_le hj
  have hms := h.bnd.1.2
  obtain ⟨A, c, e, h1, h2, h3, hc⟩ := h.seg hj
  have x0 := h.head.cell 0
  have x1 := h.head.cell 1
  have x2 := h.head.cell 2
  have x3 := h.head.cell 3
  simp only [List.getElem?_toArray, List.getElem?_cons_zero, List.getElem?_cons_succ] at x0 x1 x2 x3
  have n1 := h.bnd.2.1.1
  have n2 := h.bnd.2.1.2
  generalize m.at_ j = s at *
  clear h e
  obtain ⟨A', c', hrun, hcv⟩ := run_window h3 h1 h2 o n hon
  have d1 : decide ((o : Int) < 0) = false := decide_eq_false (by omega)
  have d2 : decide ((s.size : Int) < (o : Int)) = false := decide_eq_false (by omega)
  have d3 : decide ((n : Int) < 0) = false := decide_eq_false (by omega)
  have e4 : IntKind.i64.wrap ((s.size : Int) - (o : Int)) = (s.size : Int) - (o : Int) := IntWalk.i64_in _ (by omega)
  have d4 : decide ((s.size : Int) - (o : Int) < (n : Int)) = false := decide_eq_false (by omega)
  have e5 : IntKind.i64.wrap ((o : Int) + (n : Int)) = (o : Int) + (n : Int) := IntWalk.i64_in _ (by omega)
  rw [show ((o + n : Nat) : Int) = (o : Int) + (n : Int) by omega] at hrun
  go_enter Try.func302, Try.ntmps302
  go_wp2_with (first | (go_at_call 160; refine hz.mono ?_; rintro e w' ⟨rfl, rfl⟩) | (go_at_call 109; refine hu.mono ?_; rintro e w' ⟨rfl, rfl⟩))
  refine bodyPost_ret (v := .tuple #[.string (s.extract o (o + n)), .int .i64 0]) (by simp [results, Try.results302, go_sem]) rfl ⟨rfl, rfl⟩
end
end Go.Proofs.Ytoenkkbcpafanaa.mediums
