/- The walk of the law BoxWraps: it answers true and writes nothing that was there. -/
import Derived.Test.YtgdmhfdlijeogaaBoxRefUnwrap
namespace Go.Proofs.Ytgdmhfdlijeogaa.boxes
set_option linter.unusedVariables false
set_option linter.unusedSimpArgs false
open Go.RowKit Go.Proofs.Ytgdmhfdlijeogaa.base Go.Proofs.Ytgdmhfdlijeogaa.tm Go.Proofs.Ytgdmhfdlijeogaa.lies Go.Proofs.Ytgdmhfdlijeogaa.rights Go.Proofs.Ytgdmhfdlijeogaa.encs Go.Proofs.Ytgdmhfdlijeogaa.copies Go.Proofs.Ytgdmhfdlijeogaa.makes Go.Proofs.Ytgdmhfdlijeogaa.reads Go.Proofs.Ytgdmhfdlijeogaa.likes

theorem Keys.below {w w' : World} {K : Option Addr} {kc : Nat} {ks : List Int} (h : Keys w K kc ks) (hb : Below w.heap.size w w') : Keys w' K kc ks :=
  ⟨(h.1.below hb).more hb.size, h.2.1, h.2.2.1, h.2.2.2⟩
theorem Keys.alloc {w : World} {K : Option Addr} {kc : Nat} {ks : List Int} (h : Keys w K kc ks) (o : Obj) : Keys (w.alloc o) K kc ks :=
  h.below ((Below.refl _ _).alloc (Nat.le_refl _) o)

theorem keys_of_row {w : World} {a : Option Addr} {len cap : Nat} {zs : List Int}
    (h : (a = none ∧ len = 0 ∧ cap = 0 ∧ zs = []) ∨
      ∃ x, a = some x ∧ len ≤ cap ∧ cap ≤ maxLen ∧ zs.length = cap ∧ (∀ i, i < zs.length → w.cell? (x.add i) = some (.int .u64 (zs.getD i 0))) ∧ ∀ n ∈ zs, (Lit.int .u64 n).wf = true) :
    ∃ ks : List Int, len = ks.length ∧ Keys w a cap ks := by
  have r := of_row h
  refine ⟨zs.take len, r.2.1.symm, r.1, by rw [r.2.1]; exact r.2.2.1, by rw [r.2.1]; exact r.2.2.2.2.1, fun k hk => ?_⟩
  have hw := r.2.2.2.2.2 k hk
  have e1 : IntKind.u64.min = 0 := rfl
  have e2 : IntKind.u64.max = 18446744073709551615 := rfl
  simp [Lit.wf, IntKind.has] at hw
  omega

set_option maxRecDepth 100000 in
set_option maxHeartbeats 800000 in
theorem law_wraps (t : T) (v : Value) (K : Option Addr) (kc : Nat) (ks : List Int) (w : World) (hL : Lies w w.heap.size t v) (hK : Keys w K kc ks) :
    Calls Try.prog 4 #[T.val t v, .slice K ks.length kc] w fun e w' => e = .returned (.bool true) ∧ Below w.heap.size w w' := by
  obtain ⟨A, c, xs, rfl, hk, hn, hs, hlc, hc, hr, hl⟩ := hL.open_
  have hL1 := hL.later (Nat.le_refl _) (cs t A c)
  have hK1 := hK.alloc (cs t A c)
  have h1 := fun wx (hx : Lies wx wx.heap.size t (.slice A t.l.length c)) (hy : Keys wx K kc ks) => wrap_any t _ K kc ks wx hx hy
  have h2 := fun wx (hx : Lies wx wx.heap.size t (.slice A t.l.length c)) (hy : Keys wx K kc ks) => refWrap_any t _ K kc ks wx hx hy
  have h3 := fun wx (hx : Lies wx wx.heap.size t (.slice A t.l.length c)) (hy : Keys wx K kc ks) => unwrap_any t _ K kc ks wx hx hy
  have h4 := fun wx (hx : Lies wx wx.heap.size t (.slice A t.l.length c)) (hy : Keys wx K kc ks) => refUnwrap_any t _ K kc ks wx hx hy
  generalize wrapT t ks = r at h1 h2
  generalize unwrapT t ks = q at h3 h4
  have k0 := Blk.new w 25 #[.int .i64 t.k, .int .u64 t.n, .string t.s, .slice A t.l.length c]
  go_enter Try.func4, Try.ntmps4
  go_wp2_with fail
  refine (h1 _ hL1 hK1).mono ?_
  rintro e w1 ⟨hb1, A1, c1, rfl, hH1, hF1⟩
  have K1 := (hK1.below hb1).alloc (cs r.1 A1 c1)
  have hz1 := hb1.size
  simp only [World.size_alloc] at hb1 hz1
  have g1 : w.heap.size < w1.heap.size := by omega
  have hB1 := one_step (Below.refl _ _) _ hb1
  have a1 := hH1.lies hF1.1 hF1.2.1 hF1.2.2 (Nat.le_refl _)
  have L1 := (hL1.below (hb1.mono (by simp))).now (by simp; omega)
  have k1 := k0.below hb1 (by omega)
  have y0 := k1.cell 0
  have y1 := k1.cell 1
  have y2 := k1.cell 2
  have y3 := k1.cell 3
  simp at y0 y1 y2 y3
  go_wp2_with fail
  refine (h2 _ (L1.later (Nat.le_refl _) (cs r.1 A1 c1)) K1).mono ?_
  rintro e w2 ⟨hb2, A2, c2, rfl, a2⟩
  have K2 := (K1.below hb2).alloc (cs r.1 A2 c2)
  have hz2 := hb2.size
  simp only [World.size_alloc] at hb2 hz2
  have g2 : w.heap.size < w2.heap.size := by omega
  have g3 : w1.heap.size < w2.heap.size := by omega
  have hB2 := one_step hB1 _ hb2
  have ka := (Blk.new w1 25 #[.int .i64 r.1.k, .int .u64 r.1.n, .string r.1.s, .slice A1 r.1.l.length c1]).below hb2 (by omega)
  have k2 := (k1.alloc (cs r.1 A1 c1)).below hb2 (by omega)
  have L2 := ((L1.later (Nat.le_refl _) (cs r.1 A1 c1)).below (hb2.mono (by simp))).now (by simp; omega)
  have b1 := ((a1.later (Nat.le_refl _) (cs r.1 A1 c1)).below (hb2.mono (by simp))).now (by simp; omega)
  obtain ⟨_, _, _, _, hF2⟩ := a2.open_
  clear y0 y1 y2 y3
  have y0 := k2.cell 0
  have y1 := k2.cell 1
  have y2 := k2.cell 2
  have y3 := k2.cell 3
  simp at y0 y1 y2 y3
  go_wp2_with fail
  refine (h3 _ (L2.later (Nat.le_refl _) (cs r.1 A2 c2)) K2).mono ?_
  rintro e w3 ⟨hb3, A3, c3, rfl, hH3, hF3⟩
  have K3 := (K2.below hb3).alloc (cs q.1 A3 c3)
  have hz3 := hb3.size
  simp only [World.size_alloc] at hb3 hz3
  have g4 : w.heap.size < w3.heap.size := by omega
  have g5 : w1.heap.size < w3.heap.size := by omega
  have g6 : w2.heap.size < w3.heap.size := by omega
  have hB3 := one_step hB2 _ hb3
  have a3 := hH3.lies hF3.1 hF3.2.1 hF3.2.2 (Nat.le_refl _)
  have kb := (Blk.new w2 25 #[.int .i64 r.1.k, .int .u64 r.1.n, .string r.1.s, .slice A2 r.1.l.length c2]).below hb3 (by omega)
  have ka3 := (ka.alloc (cs r.1 A2 c2)).below hb3 (by omega)
  have k3 := (k2.alloc (cs r.1 A2 c2)).below hb3 (by omega)
  have L3 := ((L2.later (Nat.le_refl _) (cs r.1 A2 c2)).below (hb3.mono (by simp))).now (by simp; omega)
  have b13 := ((b1.later (Nat.le_refl _) (cs r.1 A2 c2)).below (hb3.mono (by simp))).now (by simp; omega)
  have b23 := ((a2.later (Nat.le_refl _) (cs r.1 A2 c2)).below (hb3.mono (by simp))).now (by simp; omega)
  clear y0 y1 y2 y3
  have y0 := k3.cell 0
  have y1 := k3.cell 1
  have y2 := k3.cell 2
  have y3 := k3.cell 3
  simp at y0 y1 y2 y3
  go_wp2_with fail
  refine (h4 _ (L3.later (Nat.le_refl _) (cs q.1 A3 c3)) K3).mono ?_
  rintro e w4 ⟨hb4, A4, c4, rfl, a4'⟩
  have hz4 := hb4.size
  simp only [World.size_alloc] at hb4 hz4
  have g7 : w.heap.size < w4.heap.size := by omega
  have g8 : w1.heap.size < w4.heap.size := by omega
  have g9 : w2.heap.size < w4.heap.size := by omega
  have g10 : w3.heap.size < w4.heap.size := by omega
  have hB4 := one_step hB3 _ hb4
  have a4 := a4'.later (Nat.le_refl _) (cs q.1 A4 c4)
  have kc := (Blk.new w3 25 #[.int .i64 q.1.k, .int .u64 q.1.n, .string q.1.s, .slice A3 q.1.l.length c3]).below hb4 (by omega)
  have ka4 := (ka3.alloc (cs q.1 A3 c3)).below hb4 (by omega)
  have kb4 := (kb.alloc (cs q.1 A3 c3)).below hb4 (by omega)
  have b14 := (((b13.later (Nat.le_refl _) (cs q.1 A3 c3)).below (hb4.mono (by simp))).now (by simp; omega)).later (Nat.le_refl _) (cs q.1 A4 c4)
  have b24 := (((b23.later (Nat.le_refl _) (cs q.1 A3 c3)).below (hb4.mono (by simp))).now (by simp; omega)).later (Nat.le_refl _) (cs q.1 A4 c4)
  have b34 := (((a3.later (Nat.le_refl _) (cs q.1 A3 c3)).below (hb4.mono (by simp))).now (by simp; omega)).later (Nat.le_refl _) (cs q.1 A4 c4)
  clear y0 y1 y2 y3 k0 k1 k2 k3 L1 L2 L3 a1 a2 a3 b1 b13 b23 hL1 hL hr hl
  have u0 := ka4.cell 0
  have u1 := ka4.cell 1
  have u2 := ka4.cell 2
  have u3 := ka4.cell 3
  have y0 := kb4.cell 0
  have y1 := kb4.cell 1
  have y2 := kb4.cell 2
  have y3 := kb4.cell 3
  simp at u0 u1 u2 u3 y0 y1 y2 y3
  have h5 := like_any r.1.size r.1 _ _ _ (Nat.le_refl _) b14 b24
  go_wp2_with fail
  refine h5.mono ?_
  rintro e w5 ⟨rfl, hb5⟩
  have hz5 := hb5.size
  simp only [World.size_alloc] at hb5 hz5
  have kc5 := (kc.alloc (cs q.1 A4 c4)).below hb5 (by omega)
  have kd5 := (Blk.new w4 25 #[.int .i64 q.1.k, .int .u64 q.1.n, .string q.1.s, .slice A4 q.1.l.length c4]).below hb5 (by omega)
  have v0 := kc5.cell 0
  have v1 := kc5.cell 1
  have v2 := kc5.cell 2
  have v3 := kc5.cell 3
  have x0 := kd5.cell 0
  have x1 := kd5.cell 1
  have x2 := kd5.cell 2
  have x3 := kd5.cell 3
  simp at v0 v1 v2 v3 x0 x1 x2 x3
  have b35 := (b34.below (hb5.mono (by simp))).now (by simp; omega)
  have b45 := (a4.below (hb5.mono (by simp))).now (by simp; omega)
  have h6 := like_any q.1.size q.1 _ _ _ (Nat.le_refl _) b35 b45
  have hB5 := one_step hB4 _ hb5
  go_wp2_with fail
  refine h6.mono ?_
  rintro e w6 ⟨rfl, hb6⟩
  go_wp2_with fail
  go_ret
  exact ⟨rfl, hB5.trans (hb6.mono hB5.size)⟩
end Go.Proofs.Ytgdmhfdlijeogaa.boxes
