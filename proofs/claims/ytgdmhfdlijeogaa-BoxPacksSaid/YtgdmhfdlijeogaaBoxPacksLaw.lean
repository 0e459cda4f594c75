/- The walk of the law BoxPacks: it answers true and writes nothing that was there. -/
import Derived.Test.YtgdmhfdlijeogaaBoxPack
namespace Go.Proofs.Ytgdmhfdlijeogaa.boxes
set_option linter.unusedVariables false
set_option linter.unusedSimpArgs false
open Go.RowKit Go.Proofs.Ytgdmhfdlijeogaa.base Go.Proofs.Ytgdmhfdlijeogaa.tm Go.Proofs.Ytgdmhfdlijeogaa.lies Go.Proofs.Ytgdmhfdlijeogaa.rights Go.Proofs.Ytgdmhfdlijeogaa.encs Go.Proofs.Ytgdmhfdlijeogaa.copies Go.Proofs.Ytgdmhfdlijeogaa.makes Go.Proofs.Ytgdmhfdlijeogaa.reads Go.Proofs.Ytgdmhfdlijeogaa.likes

set_option maxRecDepth 100000 in
set_option maxHeartbeats 800000 in
theorem law_packs (k : Int) (t : T) (v : Value) (s : ByteArray) (w : World) (hkk : 0 ≤ k ∧ k < 18446744073709551616) (hL : Lies w w.heap.size t v) (hs : s.size ≤ maxLen) :
    Calls Try.prog 5 #[.int .u64 k, T.val t v, .string s] w fun e w' => e = .returned (.bool true) ∧ Below w.heap.size w w' := by
  obtain ⟨A, c, xs, rfl, hk, hn, hss, hlc, hc, hr, hl⟩ := hL.open_
  have hL1 := hL.later (Nat.le_refl _) (cs t A c)
  have h1 := fun wx (hx : Lies wx wx.heap.size t (.slice A t.l.length c)) => pack_any k t _ wx hkk hx
  have h2 := fun wx (hx : Lies wx wx.heap.size t (.slice A t.l.length c)) => refPack_any k t _ wx hkk hx
  have h3 := fun wx => unpack_any k s wx hs
  have h4 := fun wx => refUnpack_any k s wx hs
  generalize packT k t = p at h1 h2
  generalize unpackT k s = q at h3 h4
  have k0 := Blk.new w 25 #[.int .i64 t.k, .int .u64 t.n, .string t.s, .slice A t.l.length c]
  go_enter Try.func5, Try.ntmps5
  go_wp2_with fail
  refine (h1 _ hL1).mono ?_
  rintro e w1 ⟨rfl, hb1⟩
  have L1 := (hL1.below hb1).now hb1.size
  have hz1 := hb1.size
  simp only [World.size_alloc] at hb1 hz1
  have hB1 := one_step (Below.refl _ _) _ hb1
  have k1 := k0.below hb1 (by omega)
  have y0 := k1.cell 0
  have y1 := k1.cell 1
  have y2 := k1.cell 2
  have y3 := k1.cell 3
  simp at y0 y1 y2 y3
  go_wp2_with fail
  refine (h2 _ L1).mono ?_
  rintro e w2 ⟨rfl, hb2⟩
  have hz2 := hb2.size
  have hB2 := hB1.trans (hb2.mono hB1.size)
  clear y0 y1 y2 y3
  go_wp2_with fail
  refine (h3 _).mono ?_
  rintro e w3 ⟨hb3, A3, c3, rfl, hH3, hF3⟩
  have hz3 := hb3.size
  have hB3 := hB2.trans (hb3.mono hB2.size)
  have a3 := (hH3.lies hF3.1 hF3.2.1 hF3.2.2 (Nat.le_refl _)).later (Nat.le_refl _) (cs q.1 A3 c3)
  go_wp2_with fail
  refine (h4 _).mono ?_
  rintro e w4 ⟨hb4, A4, c4, rfl, hH4, hF4⟩
  have a34 := ((a3.below hb4).now hb4.size).later (Nat.le_refl _) (cs q.1 A4 c4)
  have hz4 := hb4.size
  simp only [World.size_alloc] at hb4 hz4
  have g1 : w3.heap.size < w4.heap.size := by omega
  have hB4 := one_step hB3 _ hb4
  have a4 := (hH4.lies hF4.1 hF4.2.1 hF4.2.2 (Nat.le_refl _)).later (Nat.le_refl _) (cs q.1 A4 c4)
  have kc := (Blk.new w3 25 #[.int .i64 q.1.k, .int .u64 q.1.n, .string q.1.s, .slice A3 q.1.l.length c3]).below hb4 (by omega)
  have u0 := kc.cell 0
  have u1 := kc.cell 1
  have u2 := kc.cell 2
  have u3 := kc.cell 3
  simp at u0 u1 u2 u3
  have h5 := like_any q.1.size q.1 _ _ _ (Nat.le_refl _) a34 a4
  go_wp2_with fail
  refine h5.mono ?_
  rintro e w5 ⟨rfl, hb5⟩
  simp only [World.size_alloc] at hb5
  have hB5 := one_step hB4 _ hb5
  go_wp2_with fail
  go_ret
  exact ⟨rfl, hB5⟩
end Go.Proofs.Ytgdmhfdlijeogaa.boxes
