/- The walk of the law BoxOrders: it answers true and writes nothing that was there. -/
import Derived.Test.YtgdmhfdlijeogaaBoxOrdersT
namespace Go.Proofs.Ytgdmhfdlijeogaa.boxes
set_option linter.unusedVariables false
set_option linter.unusedSimpArgs false
open Go.RowKit Go.Proofs.Ytgdmhfdlijeogaa.base Go.Proofs.Ytgdmhfdlijeogaa.tm Go.Proofs.Ytgdmhfdlijeogaa.lies Go.Proofs.Ytgdmhfdlijeogaa.rights Go.Proofs.Ytgdmhfdlijeogaa.encs Go.Proofs.Ytgdmhfdlijeogaa.copies Go.Proofs.Ytgdmhfdlijeogaa.makes Go.Proofs.Ytgdmhfdlijeogaa.reads Go.Proofs.Ytgdmhfdlijeogaa.likes

set_option maxRecDepth 100000 in
set_option maxHeartbeats 800000 in
theorem orders_bad (t : T) (v : Value) (K : Option Addr) (kc : Nat) (ks : List Int) (i j : Int) (w : World) (hL : Lies w w.heap.size t v) (hK : Keys w K kc ks) (hE : (wrapT t ks).2 ≠ 0) :
    Calls Try.prog 7 #[T.val t v, .slice K ks.length kc, .int .i64 i, .int .i64 j] w fun e w' => e = .returned (.bool true) ∧ Below w.heap.size w w' := by
  obtain ⟨A, c, xs, rfl, hk, hn, hs, hlc, hc, hr, hl⟩ := hL.open_
  have hL1 := hL.later (Nat.le_refl _) (cs t A c)
  have hK1 := hK.alloc (cs t A c)
  have h1 := fun wx (hx : Lies wx wx.heap.size t (.slice A t.l.length c)) (hy : Keys wx K kc ks) => refWrap_any t _ K kc ks wx hx hy
  have h2 := fun wx (hx : Lies wx wx.heap.size t (.slice A t.l.length c)) (hy : Keys wx K kc ks) => wrap_any t _ K kc ks wx hx hy
  generalize wrapT t ks = r at h1 h2 hE
  have d1 : (r.2 != 0) = true := by simpa using hE
  clear hE
  have k0 := Blk.new w 25 #[.int .i64 t.k, .int .u64 t.n, .string t.s, .slice A t.l.length c]
  go_enter Try.func7, Try.ntmps7
  go_wp2_with fail
  refine (h1 _ hL1 hK1).mono ?_
  rintro e w1 ⟨hb1, A1, c1, rfl, a1⟩
  have K1 := (hK1.below hb1).alloc (cs r.1 A1 c1)
  have L1 := ((hL1.below hb1).now hb1.size).later (Nat.le_refl _) (cs r.1 A1 c1)
  have hz1 := hb1.size
  simp only [World.size_alloc] at hb1 hz1
  have g1 : w.heap.size < w1.heap.size := by omega
  have hB1 := one_step (Below.refl _ _) _ hb1
  have k1 := k0.below hb1 (by omega)
  have y0 := k1.cell 0
  have y1 := k1.cell 1
  have y2 := k1.cell 2
  have y3 := k1.cell 3
  simp at y0 y1 y2 y3
  go_wp2_with fail
  refine (h2 _ L1 K1).mono ?_
  rintro e w2 ⟨hb2, A2, c2, rfl, hH2, hF2⟩
  simp only [World.size_alloc] at hb2
  have hB2 := one_step hB1 _ hb2
  go_wp2_with fail
  go_ret
  exact ⟨rfl, hB2.alloc hB2.size _⟩

set_option maxRecDepth 100000 in
set_option maxHeartbeats 1600000 in
theorem orders_out (t b : T) (A : Option Addr) (c : Nat) (K : Option Addr) (kc : Nat) (ks : List Int) (i j : Int) (w : World) (hL : Lies w w.heap.size t (.slice A t.l.length c)) (hK : Keys w K kc ks) (hlen : ks.length ≤ 8)
    (h1 : ∀ wx, Lies wx wx.heap.size t (.slice A t.l.length c) → Keys wx K kc ks → Calls Try.prog 14 #[T.val t (.slice A t.l.length c), .slice K ks.length kc] wx (AnsL wx (b, 0)))
    (h2 : ∀ wx, Lies wx wx.heap.size t (.slice A t.l.length c) → Keys wx K kc ks → Calls Try.prog 13 #[T.val t (.slice A t.l.length c), .slice K ks.length kc] wx (Ans2 wx b 0))
    (h3 : ∀ wx v, Lies wx wx.heap.size b v → Keys wx K kc ks → Calls Try.prog 15 #[T.val b v, .slice K ks.length kc] wx (Ans2 wx t 0))
    (hij : i < 0 ∨ (¬ i < 0 ∧ (ks.length : Int) ≤ i) ∨ (¬ i < 0 ∧ ¬ (ks.length : Int) ≤ i ∧ j < 0) ∨ (¬ i < 0 ∧ ¬ (ks.length : Int) ≤ i ∧ ¬ j < 0 ∧ (ks.length : Int) ≤ j)) :
    Calls Try.prog 7 #[T.val t (.slice A t.l.length c), .slice K ks.length kc, .int .i64 i, .int .i64 j] w fun e w' => e = .returned (.bool true) ∧ Below w.heap.size w w' := by
  have HIJ := lay hij
  clear hij
  have hkc := hK.2.1
  have hL1 := hL.later (Nat.le_refl _) (cs t A c)
  have hK1 := hK.alloc (cs t A c)
  have k0 := Blk.new w 25 #[.int .i64 t.k, .int .u64 t.n, .string t.s, .slice A t.l.length c]
  go_enter Try.func7, Try.ntmps7
  go_wp2_with fail
  refine (h1 _ hL1 hK1).mono ?_
  rintro e w1 ⟨hb1, A1, c1, rfl, a1⟩
  have K1 := (hK1.below hb1).alloc (cs b A1 c1)
  have L1 := ((hL1.below hb1).now hb1.size).later (Nat.le_refl _) (cs b A1 c1)
  have hz1 := hb1.size
  simp only [World.size_alloc] at hb1 hz1
  have g1 : w.heap.size < w1.heap.size := by omega
  have hB1 := one_step (Below.refl _ _) _ hb1
  have k1 := k0.below hb1 (by omega)
  have y0 := k1.cell 0
  have y1 := k1.cell 1
  have y2 := k1.cell 2
  have y3 := k1.cell 3
  simp at y0 y1 y2 y3
  go_wp2_with fail
  refine (h2 _ L1 K1).mono ?_
  rintro e w2 ⟨hb2, A2, c2, rfl, hH2, hF2⟩
  have K2 := (K1.below hb2).alloc (cs b A2 c2)
  have L2 := ((L1.below hb2).now hb2.size).later (Nat.le_refl _) (cs b A2 c2)
  have M2 := (hH2.lies hF2.1 hF2.2.1 hF2.2.2 (Nat.le_refl _)).later (Nat.le_refl _) (cs b A2 c2)
  have hz2 := hb2.size
  simp only [World.size_alloc] at hb2 hz2
  have hB2 := one_step hB1 _ hb2
  have k2 := (k1.alloc (cs b A1 c1)).below hb2 (by omega)
  clear y0 y1 y2 y3
  go_wp2_with fail
  refine (h3 _ _ M2 K2).mono ?_
  rintro e w3 ⟨hb3, A3, c3, rfl, hH3, hF3⟩
  have L3 := ((L2.below hb3).now hb3.size).later (Nat.le_refl _) (cs t A3 c3)
  have M3 := (hH3.lies hF3.1 hF3.2.1 hF3.2.2 (Nat.le_refl _)).later (Nat.le_refl _) (cs t A3 c3)
  have hz3 := hb3.size
  simp only [World.size_alloc] at hb3 hz3
  have g3 : w.heap.size < w3.heap.size := by omega
  have hB3 := one_step hB2 _ hb3
  have k3 := (k2.alloc (cs b A2 c2)).below hb3 (by omega)
  have y0 := k3.cell 0
  have y1 := k3.cell 1
  have y2 := k3.cell 2
  have y3 := k3.cell 3
  simp at y0 y1 y2 y3
  have h4 := like_any t.size t _ _ _ (Nat.le_refl _) M3 L3
  go_wp2_with fail
  refine h4.mono ?_
  rintro e w4 ⟨rfl, hb4⟩
  simp only [World.size_alloc] at hb4
  have hB4 := one_step hB3 _ hb4
  rcases HIJ.out with q1 | ⟨q1, q2⟩ | ⟨q1, q2, q3⟩ | ⟨q1, q2, q3, q4⟩
  all_goals
    go_wp2_with fail
    go_ret
    exact ⟨rfl, hB4⟩
end Go.Proofs.Ytgdmhfdlijeogaa.boxes
