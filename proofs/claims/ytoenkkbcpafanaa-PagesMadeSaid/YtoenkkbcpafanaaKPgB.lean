/- pages.New; PagesMade. -/
import Derived.Test.YtoenkkbcpafanaaDice
import Derived.Test.YtoenkkbcpafanaaKCcB
import Derived.Test.YtoenkkbcpafanaaKSgA
import Derived.Test.YtoenkkbcpafanaaQuA
import Derived.Test.YtoenkkbcpafanaaMdE


namespace Go.Proofs.Ytoenkkbcpafanaa.pags
set_option linter.unusedVariables false
set_option linter.unusedSimpArgs false
open Go.RowKit Go.Proofs.Ytoenkkbcpafanaa.base Go.Proofs.Ytoenkkbcpafanaa.trees Go.Proofs.Ytoenkkbcpafanaa.quotas Go.Proofs.Ytoenkkbcpafanaa.mediums Go.Proofs.Ytoenkkbcpafanaa.segs Go.Proofs.Ytoenkkbcpafanaa.caches Go.Proofs.Ytoenkkbcpafanaa.dice Go.Lib

set_option maxRecDepth 100000 in
set_option maxHeartbeats 4000000 in
theorem pnew_no (a b c d e f h : Int) (l cc dd : Option Addr) (w : World) (hk : ¬ ok a b c d e f h) :
    Calls Try.prog 57 #[.agg #[.int .i64 a, .int .i64 b, .int .i64 c, .int .i64 d, .int .i64 e, .int .i64 f, .int .i64 h], .pointer l, .pointer cc, .pointer dd] w fun x w' => x = .returned (.tuple #[.pointer none, .int .i64 40]) ∧ Below w.heap.size w w' := by
  have b0 : Below w.heap.size w (w.alloc (.cells #[.int .i64 a, .int .i64 b, .int .i64 c, .int .i64 d, .int .i64 e, .int .i64 f, .int .i64 h] 113)) := (Below.refl _ _).alloc (Nat.le_refl _) _
  have hr := right_no a b c d e f h (w.alloc (.cells #[.int .i64 a, .int .i64 b, .int .i64 c, .int .i64 d, .int .i64 e, .int .i64 f, .int .i64 h] 113)) hk
  clear hk
  go_enter Try.func57, Try.ntmps57
  go_wp2_with (go_at_call 123; refine hr.mono ?_; rintro x w1 ⟨rfl, hb1⟩)
  refine bodyPost_ret (v := .tuple #[.pointer none, .int .i64 40]) (by simp [results, Try.results57, go_sem]) rfl ⟨rfl, b0.trans (hb1.mono b0.size)⟩
set_option maxRecDepth 100000 in
set_option maxHeartbeats 4000000 in
theorem pnew_nil_l (a b c d e f h : Int) (cc dd : Option Addr) (w : World) (hk : ok a b c d e f h) :
    Calls Try.prog 57 #[.agg #[.int .i64 a, .int .i64 b, .int .i64 c, .int .i64 d, .int .i64 e, .int .i64 f, .int .i64 h], .pointer none, .pointer cc, .pointer dd] w fun x w' => x = .returned (.tuple #[.pointer none, .int .i64 1]) ∧ Below w.heap.size w w' := by
  have b0 : Below w.heap.size w (w.alloc (.cells #[.int .i64 a, .int .i64 b, .int .i64 c, .int .i64 d, .int .i64 e, .int .i64 f, .int .i64 h] 113)) := (Below.refl _ _).alloc (Nat.le_refl _) _
  have hr := right_ok a b c d e f h (w.alloc (.cells #[.int .i64 a, .int .i64 b, .int .i64 c, .int .i64 d, .int .i64 e, .int .i64 f, .int .i64 h] 113)) hk
  clear hk
  go_enter Try.func57, Try.ntmps57
  go_wp2_with (go_at_call 123; refine hr.mono ?_; rintro x w1 ⟨rfl, hb1⟩)
  refine bodyPost_ret (v := .tuple #[.pointer none, .int .i64 1]) (by simp [results, Try.results57, go_sem]) rfl ⟨rfl, b0.trans (hb1.mono b0.size)⟩
set_option maxRecDepth 100000 in
set_option maxHeartbeats 4000000 in
theorem pnew_nil_c (a b c d e f h : Int) (l : Addr) (dd : Option Addr) (w : World) (hk : ok a b c d e f h) :
    Calls Try.prog 57 #[.agg #[.int .i64 a, .int .i64 b, .int .i64 c, .int .i64 d, .int .i64 e, .int .i64 f, .int .i64 h], .pointer (some l), .pointer none, .pointer dd] w fun x w' => x = .returned (.tuple #[.pointer none, .int .i64 1]) ∧ Below w.heap.size w w' := by
  have b0 : Below w.heap.size w (w.alloc (.cells #[.int .i64 a, .int .i64 b, .int .i64 c, .int .i64 d, .int .i64 e, .int .i64 f, .int .i64 h] 113)) := (Below.refl _ _).alloc (Nat.le_refl _) _
  have hr := right_ok a b c d e f h (w.alloc (.cells #[.int .i64 a, .int .i64 b, .int .i64 c, .int .i64 d, .int .i64 e, .int .i64 f, .int .i64 h] 113)) hk
  clear hk
  go_enter Try.func57, Try.ntmps57
  go_wp2_with (go_at_call 123; refine hr.mono ?_; rintro x w1 ⟨rfl, hb1⟩)
  refine bodyPost_ret (v := .tuple #[.pointer none, .int .i64 1]) (by simp [results, Try.results57, go_sem]) rfl ⟨rfl, b0.trans (hb1.mono b0.size)⟩
set_option maxRecDepth 100000 in
set_option maxHeartbeats 4000000 in
theorem pnew_nil_d (a b c d e f h : Int) (l cc : Addr) (w : World) (hk : ok a b c d e f h) :
    Calls Try.prog 57 #[.agg #[.int .i64 a, .int .i64 b, .int .i64 c, .int .i64 d, .int .i64 e, .int .i64 f, .int .i64 h], .pointer (some l), .pointer (some cc), .pointer none] w fun x w' => x = .returned (.tuple #[.pointer none, .int .i64 1]) ∧ Below w.heap.size w w' := by
  have b0 : Below w.heap.size w (w.alloc (.cells #[.int .i64 a, .int .i64 b, .int .i64 c, .int .i64 d, .int .i64 e, .int .i64 f, .int .i64 h] 113)) := (Below.refl _ _).alloc (Nat.le_refl _) _
  have hr := right_ok a b c d e f h (w.alloc (.cells #[.int .i64 a, .int .i64 b, .int .i64 c, .int .i64 d, .int .i64 e, .int .i64 f, .int .i64 h] 113)) hk
  clear hk
  go_enter Try.func57, Try.ntmps57
  go_wp2_with (go_at_call 123; refine hr.mono ?_; rintro x w1 ⟨rfl, hb1⟩)
  refine bodyPost_ret (v := .tuple #[.pointer none, .int .i64 1]) (by simp [results, Try.results57, go_sem]) rfl ⟨rfl, b0.trans (hb1.mono b0.size)⟩
set_option maxRecDepth 100000 in
set_option maxHeartbeats 4000000 in
theorem pnew_ok (a b c d e f h : Int) (l cc dd : Addr) (w : World) (hk : ok a b c d e f h) :
    Calls Try.prog 57 #[.agg #[.int .i64 a, .int .i64 b, .int .i64 c, .int .i64 d, .int .i64 e, .int .i64 f, .int .i64 h], .pointer (some l), .pointer (some cc), .pointer (some dd)] w fun x w' => ∃ pp, x = .returned (.tuple #[.pointer (some ⟨pp, 0, none⟩), .int .i64 0]) ∧ w.heap.size ≤ pp ∧ Blk w' pp 127 #[.pointer (some l), .pointer (some cc), .pointer (some dd), .int .i64 a, .int .i64 b, .int .i64 c, .int .i64 d, .int .i64 e, .int .i64 f, .int .i64 h] ∧ Below w.heap.size w w' := by
  have b0 : Below w.heap.size w (w.alloc (.cells #[.int .i64 a, .int .i64 b, .int .i64 c, .int .i64 d, .int .i64 e, .int .i64 f, .int .i64 h] 113)) := (Below.refl _ _).alloc (Nat.le_refl _) _
  have k0 := Blk.new w 113 #[.int .i64 a, .int .i64 b, .int .i64 c, .int .i64 d, .int .i64 e, .int .i64 f, .int .i64 h]
  have hr := right_ok a b c d e f h (w.alloc (.cells #[.int .i64 a, .int .i64 b, .int .i64 c, .int .i64 d, .int .i64 e, .int .i64 f, .int .i64 h] 113)) hk
  clear hk
  go_enter Try.func57, Try.ntmps57
  go_wp2_with (go_at_call 123; refine hr.mono ?_; rintro x w1 ⟨rfl, hb1⟩; have k1 := k0.below hb1 k0.lt; obtain ⟨g0, g1, g2, g3, g4, g5, g6⟩ : w1.cell? ⟨w.heap.size, 0, none⟩ = _ ∧ w1.cell? ⟨w.heap.size, 1, none⟩ = _ ∧ w1.cell? ⟨w.heap.size, 2, none⟩ = _ ∧ w1.cell? ⟨w.heap.size, 3, none⟩ = _ ∧ w1.cell? ⟨w.heap.size, 4, none⟩ = _ ∧ w1.cell? ⟨w.heap.size, 5, none⟩ = _ ∧ w1.cell? ⟨w.heap.size, 6, none⟩ = _ := ⟨k1.cell 0, k1.cell 1, k1.cell 2, k1.cell 3, k1.cell 4, k1.cell 5, k1.cell 6⟩; simp only [List.getElem?_toArray, List.getElem?_cons_zero, List.getElem?_cons_succ] at g0 g1 g2 g3 g4 g5 g6; have s1 := hb1.size)
  have hb2 := b0.trans (hb1.mono b0.size)
  refine bodyPost_ret (v := .tuple #[.pointer (some ⟨w1.heap.size, 0, none⟩), .int .i64 0]) (by simp [results, Try.results57, go_sem]) rfl ⟨_, rfl, by have := hb2.size; omega, Blk.new w1 _ _, hb2.alloc hb2.size _⟩
end Go.Proofs.Ytoenkkbcpafanaa.pags

/- PagesMade. -/

namespace Go.Proofs.Ytoenkkbcpafanaa.pags
set_option linter.unusedVariables false
set_option linter.unusedSimpArgs false
open Go.RowKit Go.Proofs.Ytoenkkbcpafanaa.base Go.Proofs.Ytoenkkbcpafanaa.trees Go.Proofs.Ytoenkkbcpafanaa.quotas Go.Proofs.Ytoenkkbcpafanaa.mediums Go.Proofs.Ytoenkkbcpafanaa.segs Go.Proofs.Ytoenkkbcpafanaa.caches Go.Proofs.Ytoenkkbcpafanaa.dice Go.Lib
set_option maxRecDepth 100000 in
theorem ptr_log (a : Addr) (u : World) : (binOp .eql 57 (.pointer (some a)) (.pointer (some a))).run Try.prog u = .ok (.bool true) u := by
  have h : ∀ d, (Op.equalIn (d + 1) 57 (.pointer (some a)) (.pointer (some a))).run Try.prog u = .ok true u := fun d => by
    simp [Op.equalIn, run_underlying Try.underlying57, sameAddr]
  simp only [binOp, Op.equal, Sem.run_bind]
  rw [show (Op.equalIn Op.maxDepth 57 (.pointer (some a)) (.pointer (some a))).run Try.prog u = .ok true u from h _]
  rfl

set_option maxRecDepth 100000 in
theorem ptr_cache (a : Addr) (u : World) : (binOp .eql 77 (.pointer (some a)) (.pointer (some a))).run Try.prog u = .ok (.bool true) u := by
  have h : ∀ d, (Op.equalIn (d + 1) 77 (.pointer (some a)) (.pointer (some a))).run Try.prog u = .ok true u := fun d => by
    simp [Op.equalIn, run_underlying Try.underlying77, sameAddr]
  simp only [binOp, Op.equal, Sem.run_bind]
  rw [show (Op.equalIn Op.maxDepth 77 (.pointer (some a)) (.pointer (some a))).run Try.prog u = .ok true u from h _]
  rfl

set_option maxRecDepth 100000 in
theorem ptr_dice (a : Addr) (u : World) : (binOp .eql 119 (.pointer (some a)) (.pointer (some a))).run Try.prog u = .ok (.bool true) u := by
  have h : ∀ d, (Op.equalIn (d + 1) 119 (.pointer (some a)) (.pointer (some a))).run Try.prog u = .ok true u := fun d => by
    simp [Op.equalIn, run_underlying Try.underlying119, sameAddr]
  simp only [binOp, Op.equal, Sem.run_bind]
  rw [show (Op.equalIn Op.maxDepth 119 (.pointer (some a)) (.pointer (some a))).run Try.prog u = .ok true u from h _]
  rfl
/-- what stands behind the beginning: a quota's box, a power, a medium, a log, a cache, draws -/
structure Mk (w wr : World) (a b c d e f h : Int) (qb pb g lg cp gd gl : Nat) : Prop where
  below : Below w.heap.size w wr
  q : Blk wr qb 113 #[.int .i64 a, .int .i64 b, .int .i64 c, .int .i64 d, .int .i64 e, .int .i64 f, .int .i64 h]
  pw : Blk wr pb 219 (powers.PC (-1) 0)
  md : ∃ S, (∀ k, S k → k < wr.heap.size) ∧ Md wr S pb g (newM 2 100)
  lg : ∃ ab c', LgAt wr g lg ab c' (newL 2)
  dice : IsDice wr 0 gd gl [] 0
theorem Mk.next {w wr w' : World} {a b c d e f h : Int} {qb pb g lg cp gd gl : Nat} (hm : Mk w wr a b c d e f h qb pb g lg cp gd gl) (hb : Below wr.heap.size wr w') : Mk w w' a b c d e f h qb pb g lg cp gd gl := by
  obtain ⟨h1, h2, h3, ⟨S, hS, h4⟩, ⟨ab, c', h5⟩, h6⟩ := hm
  refine ⟨h1.trans (hb.mono h1.size), h2.below hb h2.lt, h3.below hb h3.lt, ⟨S, fun k hk => Nat.lt_of_lt_of_le (hS k hk) hb.size, ?_⟩, ⟨ab, c', h5.below hb⟩, h6.keep (hb.block _ h6.self.lt) (hb.block _ h6.list.lt)⟩
  obtain ⟨sb, vs, vp, hM⟩ := h4
  exact ⟨sb, vs, vp, hM.agree (fun k hk => hb.block k (hS k hk)) hb.size⟩
theorem Mk.cells {w wr : World} {a b c d e f h : Int} {qb pb g lg cp gd gl : Nat} (hm : Mk w wr a b c d e f h qb pb g lg cp gd gl) :
    wr.cell? ⟨qb, 0, none⟩ = some (.int .i64 a) ∧ wr.cell? ⟨qb, 1, none⟩ = some (.int .i64 b) ∧ wr.cell? ⟨qb, 2, none⟩ = some (.int .i64 c) ∧ wr.cell? ⟨qb, 3, none⟩ = some (.int .i64 d) ∧ wr.cell? ⟨qb, 4, none⟩ = some (.int .i64 e) ∧ wr.cell? ⟨qb, 5, none⟩ = some (.int .i64 f) ∧ wr.cell? ⟨qb, 6, none⟩ = some (.int .i64 h) :=
  ⟨hm.q.cell 0, hm.q.cell 1, hm.q.cell 2, hm.q.cell 3, hm.q.cell 4, hm.q.cell 5, hm.q.cell 6⟩

set_option maxRecDepth 100000 in
set_option maxHeartbeats 8000000 in
theorem made_0 (a b c d e f h : Int)  (w : World) :
    Calls Try.prog 8 #[.agg #[.int .i64 a, .int .i64 b, .int .i64 c, .int .i64 d, .int .i64 e, .int .i64 f, .int .i64 h], .int .i64 0] w fun x w' => x = .returned (.bool true) ∧ Below w.heap.size w w' := by
  go_enter Try.func8, Try.ntmps8
  have b0 : Below w.heap.size w (w.alloc (.cells #[.int .i64 a, .int .i64 b, .int .i64 c, .int .i64 d, .int .i64 e, .int .i64 f, .int .i64 h] 113)) := (Below.refl _ _).alloc (Nat.le_refl _) _
  have k0 := Blk.new w 113 #[.int .i64 a, .int .i64 b, .int .i64 c, .int .i64 d, .int .i64 e, .int .i64 f, .int .i64 h]
  go_upto_region 1 with (fail)
  generalize hW0 : w.alloc (.cells #[.int .i64 a, .int .i64 b, .int .i64 c, .int .i64 d, .int .i64 e, .int .i64 f, .int .i64 h] 113) = W0 at b0 k0 ⊢
  obtain ⟨qb, hqb⟩ : ∃ qb, w.heap.size = qb := ⟨_, rfl⟩
  rw [hqb] at k0 ⊢
  clear hW0
  have hpn := powers.new_ok W0
  go_upto_region 2 with (first | (go_at_call 55; refine hpn.mono ?_; rintro e w1 ⟨rfl, hP1, hb1, hz1⟩; have hmn := mnew_ok W0.heap.size 2 100 (by omega) (by omega) w1 (by omega)) | (go_at_call 54; refine hmn.mono ?_; rintro e w2 ⟨g, rfl, hM2, hb2⟩))
  have hcn := caches.new_ok 1 w2 (by omega)
  go_upto_region 3 with (go_at_call 31; refine hcn.mono ?_; rintro e w3 ⟨cp, cg, rfl, hC3, hb3⟩)
  have hdn := dice.new_ok none 0 [] w3 (Rd.nil _ _ _) (by decide)
  go_upto_region 4 with (go_at_call 56; refine hdn.mono ?_; rintro e w4 ⟨gd, gl, rfl, hD4, hb4⟩)
  have hM4 : Md w4 (fun k => w1.heap.size ≤ k ∧ k < w2.heap.size) W0.heap.size g (newM 2 100) := by
    obtain ⟨sb, vs, vp, hM⟩ := hM2
    have s2 := hb2.size
    have b24 := hb3.trans (hb4.mono hb3.size)
    exact ⟨sb, vs, vp, hM.agree (fun k hk => b24.block k hk.2) b24.size⟩
  have hsn := segs.new_ok hM4
  go_upto_region 7 with (go_at_call 25; refine hsn.mono ?_; rintro e w5 ⟨lg, ab, c5, rfl, hL5, hb5, hl5, ha5⟩)
  have M5 := vers.lay (show Mk w w5 a b c d e f h qb W0.heap.size g lg cp gd gl from by
    have c01 := b0.trans (hb1.mono b0.size)
    have c02 := c01.trans (hb2.mono c01.size)
    have c03 := c02.trans (hb3.mono c02.size)
    have c04 := c03.trans (hb4.mono c03.size)
    have c05 := c04.trans (hb5.mono c04.size)
    have d02 := hb1.trans (hb2.mono hb1.size)
    have d03 := d02.trans (hb3.mono d02.size)
    have d04 := d03.trans (hb4.mono d03.size)
    have d05 := d04.trans (hb5.mono d04.size)
    have e03 := hb2.trans (hb3.mono hb2.size)
    have e04 := e03.trans (hb4.mono e03.size)
    have e05 := e04.trans (hb5.mono e04.size)
    obtain ⟨sb, vs, vp, hM⟩ := hM4
    exact ⟨c05, k0.below d05 k0.lt, hP1.below e05 hP1.lt, ⟨_, fun k hk => Nat.lt_of_lt_of_le hk.2 (by have := hb3.size; have := hb4.size; have := hb5.size; omega), sb, vs, vp, hM.agree (fun k hk => hb5.block k (by have := hb3.size; have := hb4.size; omega)) hb5.size⟩, ⟨ab, c5, hL5⟩, (hD4.keep (hb5.block _ hD4.self.lt) (hb5.block _ hD4.list.lt)).mono (Nat.zero_le _)⟩)
  obtain ⟨pb, hpb⟩ : ∃ pb, W0.heap.size = pb := ⟨_, rfl⟩
  rw [hpb] at M5
  clear hpn hmn hcn hdn hsn hM4 hM2 hP1 hC3 hD4 hL5 b0 k0 hb1 hb2 hb3 hb4 hb5 hz1 hl5 ha5 hpb hqb
  obtain ⟨g0, g1, g2, g3, g4, g5, g6⟩ := M5.out.cells
  by_cases hk : ok a b c d e f h
  · have hN := pnew_nil_l a b c d e f h (some ⟨cp, 0, none⟩) (some ⟨gd, 0, none⟩) w5 hk
    go_upto_region 15 with (go_at_call 57; refine hN.mono ?_; rintro e w6 ⟨rfl, hb6⟩)
    have M6 := vers.lay (M5.out.next hb6)
    obtain ⟨y0, y1, y2, y3, y4, y5, y6⟩ := M6.out.cells
    have hR := refRight_ok a b c d e f h w6 hk
    clear hN hb6 g0 g1 g2 g3 g4 g5 g6 hk
    go_wp2_with (go_at_call 58; refine hR.mono ?_; rintro e w7 ⟨rfl, hb7⟩)
    go_ret
    exact ⟨rfl, (M6.out.next hb7).below⟩
  · have hN := pnew_no a b c d e f h none (some ⟨cp, 0, none⟩) (some ⟨gd, 0, none⟩) w5 hk
    go_upto_region 15 with (go_at_call 57; refine hN.mono ?_; rintro e w6 ⟨rfl, hb6⟩)
    have M6 := vers.lay (M5.out.next hb6)
    obtain ⟨y0, y1, y2, y3, y4, y5, y6⟩ := M6.out.cells
    have hR := refRight_no a b c d e f h w6 hk
    clear hN hb6 g0 g1 g2 g3 g4 g5 g6 hk
    go_wp2_with (go_at_call 58; refine hR.mono ?_; rintro e w7 ⟨rfl, hb7⟩)
    go_ret
    exact ⟨rfl, (M6.out.next hb7).below⟩

set_option maxRecDepth 100000 in
set_option maxHeartbeats 8000000 in
theorem made_1 (a b c d e f h : Int)  (w : World) :
    Calls Try.prog 8 #[.agg #[.int .i64 a, .int .i64 b, .int .i64 c, .int .i64 d, .int .i64 e, .int .i64 f, .int .i64 h], .int .i64 1] w fun x w' => x = .returned (.bool true) ∧ Below w.heap.size w w' := by
  go_enter Try.func8, Try.ntmps8
  have b0 : Below w.heap.size w (w.alloc (.cells #[.int .i64 a, .int .i64 b, .int .i64 c, .int .i64 d, .int .i64 e, .int .i64 f, .int .i64 h] 113)) := (Below.refl _ _).alloc (Nat.le_refl _) _
  have k0 := Blk.new w 113 #[.int .i64 a, .int .i64 b, .int .i64 c, .int .i64 d, .int .i64 e, .int .i64 f, .int .i64 h]
  go_upto_region 1 with (fail)
  generalize hW0 : w.alloc (.cells #[.int .i64 a, .int .i64 b, .int .i64 c, .int .i64 d, .int .i64 e, .int .i64 f, .int .i64 h] 113) = W0 at b0 k0 ⊢
  obtain ⟨qb, hqb⟩ : ∃ qb, w.heap.size = qb := ⟨_, rfl⟩
  rw [hqb] at k0 ⊢
  clear hW0
  have hpn := powers.new_ok W0
  go_upto_region 2 with (first | (go_at_call 55; refine hpn.mono ?_; rintro e w1 ⟨rfl, hP1, hb1, hz1⟩; have hmn := mnew_ok W0.heap.size 2 100 (by omega) (by omega) w1 (by omega)) | (go_at_call 54; refine hmn.mono ?_; rintro e w2 ⟨g, rfl, hM2, hb2⟩))
  have hcn := caches.new_ok 1 w2 (by omega)
  go_upto_region 3 with (go_at_call 31; refine hcn.mono ?_; rintro e w3 ⟨cp, cg, rfl, hC3, hb3⟩)
  have hdn := dice.new_ok none 0 [] w3 (Rd.nil _ _ _) (by decide)
  go_upto_region 4 with (go_at_call 56; refine hdn.mono ?_; rintro e w4 ⟨gd, gl, rfl, hD4, hb4⟩)
  have hM4 : Md w4 (fun k => w1.heap.size ≤ k ∧ k < w2.heap.size) W0.heap.size g (newM 2 100) := by
    obtain ⟨sb, vs, vp, hM⟩ := hM2
    have s2 := hb2.size
    have b24 := hb3.trans (hb4.mono hb3.size)
    exact ⟨sb, vs, vp, hM.agree (fun k hk => b24.block k hk.2) b24.size⟩
  have hsn := segs.new_ok hM4
  go_upto_region 7 with (go_at_call 25; refine hsn.mono ?_; rintro e w5 ⟨lg, ab, c5, rfl, hL5, hb5, hl5, ha5⟩)
  have M5 := vers.lay (show Mk w w5 a b c d e f h qb W0.heap.size g lg cp gd gl from by
    have c01 := b0.trans (hb1.mono b0.size)
    have c02 := c01.trans (hb2.mono c01.size)
    have c03 := c02.trans (hb3.mono c02.size)
    have c04 := c03.trans (hb4.mono c03.size)
    have c05 := c04.trans (hb5.mono c04.size)
    have d02 := hb1.trans (hb2.mono hb1.size)
    have d03 := d02.trans (hb3.mono d02.size)
    have d04 := d03.trans (hb4.mono d03.size)
    have d05 := d04.trans (hb5.mono d04.size)
    have e03 := hb2.trans (hb3.mono hb2.size)
    have e04 := e03.trans (hb4.mono e03.size)
    have e05 := e04.trans (hb5.mono e04.size)
    obtain ⟨sb, vs, vp, hM⟩ := hM4
    exact ⟨c05, k0.below d05 k0.lt, hP1.below e05 hP1.lt, ⟨_, fun k hk => Nat.lt_of_lt_of_le hk.2 (by have := hb3.size; have := hb4.size; have := hb5.size; omega), sb, vs, vp, hM.agree (fun k hk => hb5.block k (by have := hb3.size; have := hb4.size; omega)) hb5.size⟩, ⟨ab, c5, hL5⟩, (hD4.keep (hb5.block _ hD4.self.lt) (hb5.block _ hD4.list.lt)).mono (Nat.zero_le _)⟩)
  obtain ⟨pb, hpb⟩ : ∃ pb, W0.heap.size = pb := ⟨_, rfl⟩
  rw [hpb] at M5
  clear hpn hmn hcn hdn hsn hM4 hM2 hP1 hC3 hD4 hL5 b0 k0 hb1 hb2 hb3 hb4 hb5 hz1 hl5 ha5 hpb hqb
  obtain ⟨g0, g1, g2, g3, g4, g5, g6⟩ := M5.out.cells
  by_cases hk : ok a b c d e f h
  · have hN := pnew_nil_c a b c d e f h ⟨lg, 0, none⟩ (some ⟨gd, 0, none⟩) w5 hk
    go_upto_region 15 with (go_at_call 57; refine hN.mono ?_; rintro e w6 ⟨rfl, hb6⟩)
    have M6 := vers.lay (M5.out.next hb6)
    obtain ⟨y0, y1, y2, y3, y4, y5, y6⟩ := M6.out.cells
    have hR := refRight_ok a b c d e f h w6 hk
    clear hN hb6 g0 g1 g2 g3 g4 g5 g6 hk
    go_wp2_with (go_at_call 58; refine hR.mono ?_; rintro e w7 ⟨rfl, hb7⟩)
    go_ret
    exact ⟨rfl, (M6.out.next hb7).below⟩
  · have hN := pnew_no a b c d e f h (some ⟨lg, 0, none⟩) none (some ⟨gd, 0, none⟩) w5 hk
    go_upto_region 15 with (go_at_call 57; refine hN.mono ?_; rintro e w6 ⟨rfl, hb6⟩)
    have M6 := vers.lay (M5.out.next hb6)
    obtain ⟨y0, y1, y2, y3, y4, y5, y6⟩ := M6.out.cells
    have hR := refRight_no a b c d e f h w6 hk
    clear hN hb6 g0 g1 g2 g3 g4 g5 g6 hk
    go_wp2_with (go_at_call 58; refine hR.mono ?_; rintro e w7 ⟨rfl, hb7⟩)
    go_ret
    exact ⟨rfl, (M6.out.next hb7).below⟩

set_option maxRecDepth 100000 in
set_option maxHeartbeats 8000000 in
theorem made_2 (a b c d e f h : Int)  (w : World) :
    Calls Try.prog 8 #[.agg #[.int .i64 a, .int .i64 b, .int .i64 c, .int .i64 d, .int .i64 e, .int .i64 f, .int .i64 h], .int .i64 2] w fun x w' => x = .returned (.bool true) ∧ Below w.heap.size w w' := by
  go_enter Try.func8, Try.ntmps8
  have b0 : Below w.heap.size w (w.alloc (.cells #[.int .i64 a, .int .i64 b, .int .i64 c, .int .i64 d, .int .i64 e, .int .i64 f, .int .i64 h] 113)) := (Below.refl _ _).alloc (Nat.le_refl _) _
  have k0 := Blk.new w 113 #[.int .i64 a, .int .i64 b, .int .i64 c, .int .i64 d, .int .i64 e, .int .i64 f, .int .i64 h]
  go_upto_region 1 with (fail)
  generalize hW0 : w.alloc (.cells #[.int .i64 a, .int .i64 b, .int .i64 c, .int .i64 d, .int .i64 e, .int .i64 f, .int .i64 h] 113) = W0 at b0 k0 ⊢
  obtain ⟨qb, hqb⟩ : ∃ qb, w.heap.size = qb := ⟨_, rfl⟩
  rw [hqb] at k0 ⊢
  clear hW0
  have hpn := powers.new_ok W0
  go_upto_region 2 with (first | (go_at_call 55; refine hpn.mono ?_; rintro e w1 ⟨rfl, hP1, hb1, hz1⟩; have hmn := mnew_ok W0.heap.size 2 100 (by omega) (by omega) w1 (by omega)) | (go_at_call 54; refine hmn.mono ?_; rintro e w2 ⟨g, rfl, hM2, hb2⟩))
  have hcn := caches.new_ok 1 w2 (by omega)
  go_upto_region 3 with (go_at_call 31; refine hcn.mono ?_; rintro e w3 ⟨cp, cg, rfl, hC3, hb3⟩)
  have hdn := dice.new_ok none 0 [] w3 (Rd.nil _ _ _) (by decide)
  go_upto_region 4 with (go_at_call 56; refine hdn.mono ?_; rintro e w4 ⟨gd, gl, rfl, hD4, hb4⟩)
  have hM4 : Md w4 (fun k => w1.heap.size ≤ k ∧ k < w2.heap.size) W0.heap.size g (newM 2 100) := by
    obtain ⟨sb, vs, vp, hM⟩ := hM2
    have s2 := hb2.size
    have b24 := hb3.trans (hb4.mono hb3.size)
    exact ⟨sb, vs, vp, hM.agree (fun k hk => b24.block k hk.2) b24.size⟩
  have hsn := segs.new_ok hM4
  go_upto_region 7 with (go_at_call 25; refine hsn.mono ?_; rintro e w5 ⟨lg, ab, c5, rfl, hL5, hb5, hl5, ha5⟩)
  have M5 := vers.lay (show Mk w w5 a b c d e f h qb W0.heap.size g lg cp gd gl from by
    have c01 := b0.trans (hb1.mono b0.size)
    have c02 := c01.trans (hb2.mono c01.size)
    have c03 := c02.trans (hb3.mono c02.size)
    have c04 := c03.trans (hb4.mono c03.size)
    have c05 := c04.trans (hb5.mono c04.size)
    have d02 := hb1.trans (hb2.mono hb1.size)
    have d03 := d02.trans (hb3.mono d02.size)
    have d04 := d03.trans (hb4.mono d03.size)
    have d05 := d04.trans (hb5.mono d04.size)
    have e03 := hb2.trans (hb3.mono hb2.size)
    have e04 := e03.trans (hb4.mono e03.size)
    have e05 := e04.trans (hb5.mono e04.size)
    obtain ⟨sb, vs, vp, hM⟩ := hM4
    exact ⟨c05, k0.below d05 k0.lt, hP1.below e05 hP1.lt, ⟨_, fun k hk => Nat.lt_of_lt_of_le hk.2 (by have := hb3.size; have := hb4.size; have := hb5.size; omega), sb, vs, vp, hM.agree (fun k hk => hb5.block k (by have := hb3.size; have := hb4.size; omega)) hb5.size⟩, ⟨ab, c5, hL5⟩, (hD4.keep (hb5.block _ hD4.self.lt) (hb5.block _ hD4.list.lt)).mono (Nat.zero_le _)⟩)
  obtain ⟨pb, hpb⟩ : ∃ pb, W0.heap.size = pb := ⟨_, rfl⟩
  rw [hpb] at M5
  clear hpn hmn hcn hdn hsn hM4 hM2 hP1 hC3 hD4 hL5 b0 k0 hb1 hb2 hb3 hb4 hb5 hz1 hl5 ha5 hpb hqb
  obtain ⟨g0, g1, g2, g3, g4, g5, g6⟩ := M5.out.cells
  by_cases hk : ok a b c d e f h
  · have hN := pnew_nil_d a b c d e f h ⟨lg, 0, none⟩ ⟨cp, 0, none⟩ w5 hk
    go_upto_region 15 with (go_at_call 57; refine hN.mono ?_; rintro e w6 ⟨rfl, hb6⟩)
    have M6 := vers.lay (M5.out.next hb6)
    obtain ⟨y0, y1, y2, y3, y4, y5, y6⟩ := M6.out.cells
    have hR := refRight_ok a b c d e f h w6 hk
    clear hN hb6 g0 g1 g2 g3 g4 g5 g6 hk
    go_wp2_with (go_at_call 58; refine hR.mono ?_; rintro e w7 ⟨rfl, hb7⟩)
    go_ret
    exact ⟨rfl, (M6.out.next hb7).below⟩
  · have hN := pnew_no a b c d e f h (some ⟨lg, 0, none⟩) (some ⟨cp, 0, none⟩) none w5 hk
    go_upto_region 15 with (go_at_call 57; refine hN.mono ?_; rintro e w6 ⟨rfl, hb6⟩)
    have M6 := vers.lay (M5.out.next hb6)
    obtain ⟨y0, y1, y2, y3, y4, y5, y6⟩ := M6.out.cells
    have hR := refRight_no a b c d e f h w6 hk
    clear hN hb6 g0 g1 g2 g3 g4 g5 g6 hk
    go_wp2_with (go_at_call 58; refine hR.mono ?_; rintro e w7 ⟨rfl, hb7⟩)
    go_ret
    exact ⟨rfl, (M6.out.next hb7).below⟩

set_option maxRecDepth 100000 in
set_option maxHeartbeats 8000000 in
theorem made_3 (a b c d e f h : Int) (n : Int) (hn : n < 0) (w : World) :
    Calls Try.prog 8 #[.agg #[.int .i64 a, .int .i64 b, .int .i64 c, .int .i64 d, .int .i64 e, .int .i64 f, .int .i64 h], .int .i64 n] w fun x w' => x = .returned (.bool true) ∧ Below w.heap.size w w' := by
  have d0 : (n == 0) = false := by simp; omega
  have d1 : (n == 1) = false := by simp; omega
  have d2 : (n == 2) = false := by simp; omega
  have e0 : decide (n = 0) = false := decide_eq_false (by omega)
  have e1 : decide (n = 1) = false := decide_eq_false (by omega)
  have e2 : decide (n = 2) = false := decide_eq_false (by omega)
  have f0 : decide (0 ≤ n) = false := decide_eq_false (by omega)
  clear hn
  go_enter Try.func8, Try.ntmps8
  have b0 : Below w.heap.size w (w.alloc (.cells #[.int .i64 a, .int .i64 b, .int .i64 c, .int .i64 d, .int .i64 e, .int .i64 f, .int .i64 h] 113)) := (Below.refl _ _).alloc (Nat.le_refl _) _
  have k0 := Blk.new w 113 #[.int .i64 a, .int .i64 b, .int .i64 c, .int .i64 d, .int .i64 e, .int .i64 f, .int .i64 h]
  go_upto_region 1 with (fail)
  generalize hW0 : w.alloc (.cells #[.int .i64 a, .int .i64 b, .int .i64 c, .int .i64 d, .int .i64 e, .int .i64 f, .int .i64 h] 113) = W0 at b0 k0 ⊢
  obtain ⟨qb, hqb⟩ : ∃ qb, w.heap.size = qb := ⟨_, rfl⟩
  rw [hqb] at k0 ⊢
  clear hW0
  have hpn := powers.new_ok W0
  go_upto_region 2 with (first | (go_at_call 55; refine hpn.mono ?_; rintro e w1 ⟨rfl, hP1, hb1, hz1⟩; have hmn := mnew_ok W0.heap.size 2 100 (by omega) (by omega) w1 (by omega)) | (go_at_call 54; refine hmn.mono ?_; rintro e w2 ⟨g, rfl, hM2, hb2⟩))
  have hcn := caches.new_ok 1 w2 (by omega)
  go_upto_region 3 with (go_at_call 31; refine hcn.mono ?_; rintro e w3 ⟨cp, cg, rfl, hC3, hb3⟩)
  have hdn := dice.new_ok none 0 [] w3 (Rd.nil _ _ _) (by decide)
  go_upto_region 4 with (go_at_call 56; refine hdn.mono ?_; rintro e w4 ⟨gd, gl, rfl, hD4, hb4⟩)
  have hM4 : Md w4 (fun k => w1.heap.size ≤ k ∧ k < w2.heap.size) W0.heap.size g (newM 2 100) := by
    obtain ⟨sb, vs, vp, hM⟩ := hM2
    have s2 := hb2.size
    have b24 := hb3.trans (hb4.mono hb3.size)
    exact ⟨sb, vs, vp, hM.agree (fun k hk => b24.block k hk.2) b24.size⟩
  have hsn := segs.new_ok hM4
  go_upto_region 7 with (go_at_call 25; refine hsn.mono ?_; rintro e w5 ⟨lg, ab, c5, rfl, hL5, hb5, hl5, ha5⟩)
  have M5 := vers.lay (show Mk w w5 a b c d e f h qb W0.heap.size g lg cp gd gl from by
    have c01 := b0.trans (hb1.mono b0.size)
    have c02 := c01.trans (hb2.mono c01.size)
    have c03 := c02.trans (hb3.mono c02.size)
    have c04 := c03.trans (hb4.mono c03.size)
    have c05 := c04.trans (hb5.mono c04.size)
    have d02 := hb1.trans (hb2.mono hb1.size)
    have d03 := d02.trans (hb3.mono d02.size)
    have d04 := d03.trans (hb4.mono d03.size)
    have d05 := d04.trans (hb5.mono d04.size)
    have e03 := hb2.trans (hb3.mono hb2.size)
    have e04 := e03.trans (hb4.mono e03.size)
    have e05 := e04.trans (hb5.mono e04.size)
    obtain ⟨sb, vs, vp, hM⟩ := hM4
    exact ⟨c05, k0.below d05 k0.lt, hP1.below e05 hP1.lt, ⟨_, fun k hk => Nat.lt_of_lt_of_le hk.2 (by have := hb3.size; have := hb4.size; have := hb5.size; omega), sb, vs, vp, hM.agree (fun k hk => hb5.block k (by have := hb3.size; have := hb4.size; omega)) hb5.size⟩, ⟨ab, c5, hL5⟩, (hD4.keep (hb5.block _ hD4.self.lt) (hb5.block _ hD4.list.lt)).mono (Nat.zero_le _)⟩)
  obtain ⟨pb, hpb⟩ : ∃ pb, W0.heap.size = pb := ⟨_, rfl⟩
  rw [hpb] at M5
  clear hpn hmn hcn hdn hsn hM4 hM2 hP1 hC3 hD4 hL5 b0 k0 hb1 hb2 hb3 hb4 hb5 hz1 hl5 ha5 hpb hqb
  obtain ⟨g0, g1, g2, g3, g4, g5, g6⟩ := M5.out.cells
  by_cases hk : ok a b c d e f h
  · have hN := pnew_ok a b c d e f h ⟨lg, 0, none⟩ ⟨cp, 0, none⟩ ⟨gd, 0, none⟩ w5 hk
    go_upto_region 15 with (go_at_call 57; refine hN.mono ?_; rintro e w6 ⟨pp, rfl, hpp6, hB6, hb6⟩)
    have M6 := vers.lay (M5.out.next hb6)
    obtain ⟨y0, y1, y2, y3, y4, y5, y6⟩ := M6.out.cells
    have hR := refRight_ok a b c d e f h w6 hk
    clear hN hb6 g0 g1 g2 g3 g4 g5 g6 hk
    go_upto_region 19 with (go_at_call 58; refine hR.mono ?_; rintro e w7 ⟨rfl, hb7⟩)
    have M7 := vers.lay (M6.out.next hb7)
    have hB7 := hB6.below hb7 hB6.lt
    have z0 := hB7.cell 0
    have z1 := hB7.cell 1
    have z2 := hB7.cell 2
    simp only [List.getElem?_toArray, List.getElem?_cons_zero, List.getElem?_cons_succ] at z0 z1 z2
    obtain ⟨S7, hS7, sb7, vs7, vp7, hM7⟩ := M7.out.md
    obtain ⟨ab7, c7, hL7⟩ := M7.out.lg
    have u0 := hL7.head.cell 0
    have u1 := hM7.head.cell 0
    simp only [List.getElem?_toArray, List.getElem?_cons_zero, List.getElem?_cons_succ] at u0 u1
    have hsg := segments_ok hM7
    rw [show vs7.length = 2 from hM7.len] at hsg
    have htk := dice.taken_ok _ _ _ _ _ _ M7.out.dice
    have hon := powers.on_ok M7.out.pw
    clear hR hb7 y0 y1 y2 y3 y4 y5 y6 hB6 hB7 hM7 hL7 hpp6
    have p1 := ptr_log ⟨lg, 0, none⟩
    have p2 := ptr_cache ⟨cp, 0, none⟩
    have p3 := ptr_dice ⟨gd, 0, none⟩
    go_wp2_with (first | (go_at_call 59; refine hsg.mono ?_; rintro e w8 ⟨rfl, rfl⟩) | (go_at_call 60; refine htk.mono ?_; rintro e w8 ⟨rfl, rfl⟩) | (go_at_call 61; refine hon.mono ?_; rintro e w8 ⟨rfl, rfl⟩))
    go_ret
    exact ⟨rfl, M7.out.below⟩
  · have hN := pnew_no a b c d e f h (some ⟨lg, 0, none⟩) (some ⟨cp, 0, none⟩) (some ⟨gd, 0, none⟩) w5 hk
    go_upto_region 15 with (go_at_call 57; refine hN.mono ?_; rintro e w6 ⟨rfl, hb6⟩)
    have M6 := vers.lay (M5.out.next hb6)
    obtain ⟨y0, y1, y2, y3, y4, y5, y6⟩ := M6.out.cells
    have hR := refRight_no a b c d e f h w6 hk
    clear hN hb6 g0 g1 g2 g3 g4 g5 g6 hk
    go_wp2_with (go_at_call 58; refine hR.mono ?_; rintro e w7 ⟨rfl, hb7⟩)
    go_ret
    exact ⟨rfl, (M6.out.next hb7).below⟩

set_option maxRecDepth 100000 in
set_option maxHeartbeats 8000000 in
theorem made_4 (a b c d e f h : Int) (n : Int) (hn : 2 < n) (w : World) :
    Calls Try.prog 8 #[.agg #[.int .i64 a, .int .i64 b, .int .i64 c, .int .i64 d, .int .i64 e, .int .i64 f, .int .i64 h], .int .i64 n] w fun x w' => x = .returned (.bool true) ∧ Below w.heap.size w w' := by
  have d0 : (n == 0) = false := by simp; omega
  have d1 : (n == 1) = false := by simp; omega
  have d2 : (n == 2) = false := by simp; omega
  have e0 : decide (n = 0) = false := decide_eq_false (by omega)
  have e1 : decide (n = 1) = false := decide_eq_false (by omega)
  have e2 : decide (n = 2) = false := decide_eq_false (by omega)
  have f0 : decide (0 ≤ n) = true := decide_eq_true (by omega)
  have f1 : decide (n ≤ 2) = false := decide_eq_false (by omega)
  clear hn
  go_enter Try.func8, Try.ntmps8
  have b0 : Below w.heap.size w (w.alloc (.cells #[.int .i64 a, .int .i64 b, .int .i64 c, .int .i64 d, .int .i64 e, .int .i64 f, .int .i64 h] 113)) := (Below.refl _ _).alloc (Nat.le_refl _) _
  have k0 := Blk.new w 113 #[.int .i64 a, .int .i64 b, .int .i64 c, .int .i64 d, .int .i64 e, .int .i64 f, .int .i64 h]
  go_upto_region 1 with (fail)
  generalize hW0 : w.alloc (.cells #[.int .i64 a, .int .i64 b, .int .i64 c, .int .i64 d, .int .i64 e, .int .i64 f, .int .i64 h] 113) = W0 at b0 k0 ⊢
  obtain ⟨qb, hqb⟩ : ∃ qb, w.heap.size = qb := ⟨_, rfl⟩
  rw [hqb] at k0 ⊢
  clear hW0
  have hpn := powers.new_ok W0
  go_upto_region 2 with (first | (go_at_call 55; refine hpn.mono ?_; rintro e w1 ⟨rfl, hP1, hb1, hz1⟩; have hmn := mnew_ok W0.heap.size 2 100 (by omega) (by omega) w1 (by omega)) | (go_at_call 54; refine hmn.mono ?_; rintro e w2 ⟨g, rfl, hM2, hb2⟩))
  have hcn := caches.new_ok 1 w2 (by omega)
  go_upto_region 3 with (go_at_call 31; refine hcn.mono ?_; rintro e w3 ⟨cp, cg, rfl, hC3, hb3⟩)
  have hdn := dice.new_ok none 0 [] w3 (Rd.nil _ _ _) (by decide)
  go_upto_region 4 with (go_at_call 56; refine hdn.mono ?_; rintro e w4 ⟨gd, gl, rfl, hD4, hb4⟩)
  have hM4 : Md w4 (fun k => w1.heap.size ≤ k ∧ k < w2.heap.size) W0.heap.size g (newM 2 100) := by
    obtain ⟨sb, vs, vp, hM⟩ := hM2
    have s2 := hb2.size
    have b24 := hb3.trans (hb4.mono hb3.size)
    exact ⟨sb, vs, vp, hM.agree (fun k hk => b24.block k hk.2) b24.size⟩
  have hsn := segs.new_ok hM4
  go_upto_region 7 with (go_at_call 25; refine hsn.mono ?_; rintro e w5 ⟨lg, ab, c5, rfl, hL5, hb5, hl5, ha5⟩)
  have M5 := vers.lay (show Mk w w5 a b c d e f h qb W0.heap.size g lg cp gd gl from by
    have c01 := b0.trans (hb1.mono b0.size)
    have c02 := c01.trans (hb2.mono c01.size)
    have c03 := c02.trans (hb3.mono c02.size)
    have c04 := c03.trans (hb4.mono c03.size)
    have c05 := c04.trans (hb5.mono c04.size)
    have d02 := hb1.trans (hb2.mono hb1.size)
    have d03 := d02.trans (hb3.mono d02.size)
    have d04 := d03.trans (hb4.mono d03.size)
    have d05 := d04.trans (hb5.mono d04.size)
    have e03 := hb2.trans (hb3.mono hb2.size)
    have e04 := e03.trans (hb4.mono e03.size)
    have e05 := e04.trans (hb5.mono e04.size)
    obtain ⟨sb, vs, vp, hM⟩ := hM4
    exact ⟨c05, k0.below d05 k0.lt, hP1.below e05 hP1.lt, ⟨_, fun k hk => Nat.lt_of_lt_of_le hk.2 (by have := hb3.size; have := hb4.size; have := hb5.size; omega), sb, vs, vp, hM.agree (fun k hk => hb5.block k (by have := hb3.size; have := hb4.size; omega)) hb5.size⟩, ⟨ab, c5, hL5⟩, (hD4.keep (hb5.block _ hD4.self.lt) (hb5.block _ hD4.list.lt)).mono (Nat.zero_le _)⟩)
  obtain ⟨pb, hpb⟩ : ∃ pb, W0.heap.size = pb := ⟨_, rfl⟩
  rw [hpb] at M5
  clear hpn hmn hcn hdn hsn hM4 hM2 hP1 hC3 hD4 hL5 b0 k0 hb1 hb2 hb3 hb4 hb5 hz1 hl5 ha5 hpb hqb
  obtain ⟨g0, g1, g2, g3, g4, g5, g6⟩ := M5.out.cells
  by_cases hk : ok a b c d e f h
  · have hN := pnew_ok a b c d e f h ⟨lg, 0, none⟩ ⟨cp, 0, none⟩ ⟨gd, 0, none⟩ w5 hk
    go_upto_region 15 with (go_at_call 57; refine hN.mono ?_; rintro e w6 ⟨pp, rfl, hpp6, hB6, hb6⟩)
    have M6 := vers.lay (M5.out.next hb6)
    obtain ⟨y0, y1, y2, y3, y4, y5, y6⟩ := M6.out.cells
    have hR := refRight_ok a b c d e f h w6 hk
    clear hN hb6 g0 g1 g2 g3 g4 g5 g6 hk
    go_upto_region 19 with (go_at_call 58; refine hR.mono ?_; rintro e w7 ⟨rfl, hb7⟩)
    have M7 := vers.lay (M6.out.next hb7)
    have hB7 := hB6.below hb7 hB6.lt
    have z0 := hB7.cell 0
    have z1 := hB7.cell 1
    have z2 := hB7.cell 2
    simp only [List.getElem?_toArray, List.getElem?_cons_zero, List.getElem?_cons_succ] at z0 z1 z2
    obtain ⟨S7, hS7, sb7, vs7, vp7, hM7⟩ := M7.out.md
    obtain ⟨ab7, c7, hL7⟩ := M7.out.lg
    have u0 := hL7.head.cell 0
    have u1 := hM7.head.cell 0
    simp only [List.getElem?_toArray, List.getElem?_cons_zero, List.getElem?_cons_succ] at u0 u1
    have hsg := segments_ok hM7
    rw [show vs7.length = 2 from hM7.len] at hsg
    have htk := dice.taken_ok _ _ _ _ _ _ M7.out.dice
    have hon := powers.on_ok M7.out.pw
    clear hR hb7 y0 y1 y2 y3 y4 y5 y6 hB6 hB7 hM7 hL7 hpp6
    have p1 := ptr_log ⟨lg, 0, none⟩
    have p2 := ptr_cache ⟨cp, 0, none⟩
    have p3 := ptr_dice ⟨gd, 0, none⟩
    go_wp2_with (first | (go_at_call 59; refine hsg.mono ?_; rintro e w8 ⟨rfl, rfl⟩) | (go_at_call 60; refine htk.mono ?_; rintro e w8 ⟨rfl, rfl⟩) | (go_at_call 61; refine hon.mono ?_; rintro e w8 ⟨rfl, rfl⟩))
    go_ret
    exact ⟨rfl, M7.out.below⟩
  · have hN := pnew_no a b c d e f h (some ⟨lg, 0, none⟩) (some ⟨cp, 0, none⟩) (some ⟨gd, 0, none⟩) w5 hk
    go_upto_region 15 with (go_at_call 57; refine hN.mono ?_; rintro e w6 ⟨rfl, hb6⟩)
    have M6 := vers.lay (M5.out.next hb6)
    obtain ⟨y0, y1, y2, y3, y4, y5, y6⟩ := M6.out.cells
    have hR := refRight_no a b c d e f h w6 hk
    clear hN hb6 g0 g1 g2 g3 g4 g5 g6 hk
    go_wp2_with (go_at_call 58; refine hR.mono ?_; rintro e w7 ⟨rfl, hb7⟩)
    go_ret
    exact ⟨rfl, (M6.out.next hb7).below⟩

theorem law_made (a b c d e f h n : Int) (w : World) :
    Calls Try.prog 8 #[.agg #[.int .i64 a, .int .i64 b, .int .i64 c, .int .i64 d, .int .i64 e, .int .i64 f, .int .i64 h], .int .i64 n] w fun x w' => x = .returned (.bool true) ∧ Below w.heap.size w w' := by
  by_cases h0 : n = 0
  · subst h0; exact made_0 a b c d e f h w
  by_cases h1 : n = 1
  · subst h1; exact made_1 a b c d e f h w
  by_cases h2 : n = 2
  · subst h2; exact made_2 a b c d e f h w
  by_cases h3 : n < 0
  · exact made_3 a b c d e f h n h3 w
  · exact made_4 a b c d e f h n (by omega) w
end Go.Proofs.Ytoenkkbcpafanaa.pags
