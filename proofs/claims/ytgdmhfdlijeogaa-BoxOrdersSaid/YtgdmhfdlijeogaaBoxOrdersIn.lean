/- The walk of the law BoxOrders, where both places are among the keys. -/
import Derived.Test.YtgdmhfdlijeogaaBoxOrdersLaw
namespace Go.Proofs.Ytgdmhfdlijeogaa.boxes
set_option linter.unusedVariables false
set_option linter.unusedSimpArgs false
open Go.RowKit Go.Proofs.Ytgdmhfdlijeogaa.base Go.Proofs.Ytgdmhfdlijeogaa.tm Go.Proofs.Ytgdmhfdlijeogaa.lies Go.Proofs.Ytgdmhfdlijeogaa.rights Go.Proofs.Ytgdmhfdlijeogaa.encs Go.Proofs.Ytgdmhfdlijeogaa.copies Go.Proofs.Ytgdmhfdlijeogaa.makes Go.Proofs.Ytgdmhfdlijeogaa.reads Go.Proofs.Ytgdmhfdlijeogaa.likes

set_option maxRecDepth 100000 in
set_option maxHeartbeats 3200000 in
theorem orders_in (t b q : T) (n : Int) (A : Option Addr) (c : Nat) (K : Option Addr) (kc : Nat) (ks : List Int) (i j : Nat) (w : World) (hL : Lies w w.heap.size t (.slice A t.l.length c)) (hK : Keys w K kc ks) (hlen : ks.length ≤ 8)
    (hi : i < ks.length) (hj : j < ks.length)
    (h1 : ∀ wx, Lies wx wx.heap.size t (.slice A t.l.length c) → Keys wx K kc ks → Calls Try.prog 14 #[T.val t (.slice A t.l.length c), .slice K ks.length kc] wx (AnsL wx (b, 0)))
    (h2 : ∀ wx, Lies wx wx.heap.size t (.slice A t.l.length c) → Keys wx K kc ks → Calls Try.prog 13 #[T.val t (.slice A t.l.length c), .slice K ks.length kc] wx (Ans2 wx b 0))
    (h3 : ∀ wx v, Lies wx wx.heap.size b v → Keys wx K kc ks → Calls Try.prog 15 #[T.val b v, .slice K ks.length kc] wx (Ans2 wx t 0))
    (h4 : ∀ wx v K' c', Lies wx wx.heap.size b v → Keys wx K' c' ((ks.set i ks[j]).set j ks[i]) → Calls Try.prog 15 #[T.val b v, .slice K' ks.length c'] wx (Ans2 wx q n))
    (h5 : ∀ wx v K' c' x, x ≠ ks[i] → Lies wx wx.heap.size b v → Keys wx K' c' (ks.set i x) → Calls Try.prog 15 #[T.val b v, .slice K' ks.length c'] wx (Ans2 wx zT 31))
    (hq : ((ks[i] == ks[j]) = true ∧ n = 0) ∨ ((ks[i] == ks[j]) = false ∧ n = 31)) :
    Calls Try.prog 7 #[T.val t (.slice A t.l.length c), .slice K ks.length kc, .int .i64 i, .int .i64 j] w fun e w' => e = .returned (.bool true) ∧ Below w.heap.size w w' := by
  obtain ⟨i0, hi0, hz0, hzz1, hzz2⟩ := info_parts info64
  have HQ := lay hq
  clear hq
  have hkc := hK.2.1
  obtain ⟨bk, ok, rfl, hbk, _, hki64⟩ := hK.at_ (Below.refl _ _) hi
  obtain ⟨_, _, e, _, _, hkj64⟩ := hK.at_ (Below.refl _ _) hj
  clear e
  have hci := fun (w' : World) (hb : Below w.heap.size w w') => (show w'.cell? ⟨bk, ok + i, none⟩ = some (.int .u64 ks[i]) by
    obtain ⟨b', o', e, _, h, _⟩ := hK.at_ hb hi
    injection e with e
    injection e with e1 e2 _
    rw [e1, e2]; exact h)
  have hcj := fun (w' : World) (hb : Below w.heap.size w w') => (show w'.cell? ⟨bk, ok + j, none⟩ = some (.int .u64 ks[j]) by
    obtain ⟨b', o', e, _, h, _⟩ := hK.at_ hb hj
    injection e with e
    injection e with e1 e2 _
    rw [e1, e2]; exact h)
  have hall := hK.2.2.2
  have i1 : ¬ (i : Int) < 0 := by omega
  have i2 : ¬ (ks.length : Int) ≤ (i : Int) := by omega
  have j1 : ¬ (j : Int) < 0 := by omega
  have j2 : ¬ (ks.length : Int) ≤ (j : Int) := by omega
  have hL1 := hL.later (Nat.le_refl _) (cs t A c)
  have hK1 := hK.alloc (cs t A c)
  have k0 := Blk.new w 25 #[.int .i64 t.k, .int .u64 t.n, .string t.s, .slice A t.l.length c]
  go_enter Try.func7, Try.ntmps7
  go_wp2_with fail
  refine (h1 _ hL1 hK1).mono ?_
  rintro e w1 ⟨hb1, A1, c1, rfl, a1⟩
  have K1 := (hK1.below hb1).alloc (cs b A1 c1)
  have L1 := ((hL1.below hb1).now hb1.size).later (Nat.le_refl _) (cs b A1 c1)
  have hz1 := hb1.size
  simp only [World.size_alloc] at hb1 hz1
  have g1 : w.heap.size < w1.heap.size := by omega
  have hB1 := one_step (Below.refl _ _) _ hb1
  have k1 := k0.below hb1 (by omega)
  have y0 := k1.cell 0
  have y1 := k1.cell 1
  have y2 := k1.cell 2
  have y3 := k1.cell 3
  simp at y0 y1 y2 y3
  go_wp2_with fail
  refine (h2 _ L1 K1).mono ?_
  rintro e w2 ⟨hb2, A2, c2, rfl, hH2, hF2⟩
  have K2 := (K1.below hb2).alloc (cs b A2 c2)
  have L2 := ((L1.below hb2).now hb2.size).later (Nat.le_refl _) (cs b A2 c2)
  have M2 := (hH2.lies hF2.1 hF2.2.1 hF2.2.2 (Nat.le_refl _)).later (Nat.le_refl _) (cs b A2 c2)
  have hz2 := hb2.size
  simp only [World.size_alloc] at hb2 hz2
  have hB2 := one_step hB1 _ hb2
  have k2 := (k1.alloc (cs b A1 c1)).below hb2 (by omega)
  clear y0 y1 y2 y3
  go_wp2_with fail
  refine (h3 _ _ M2 K2).mono ?_
  rintro e w3 ⟨hb3, A3, c3, rfl, hH3, hF3⟩
  have L3 := ((L2.below hb3).now hb3.size).later (Nat.le_refl _) (cs t A3 c3)
  have X3 := (hH3.lies hF3.1 hF3.2.1 hF3.2.2 (Nat.le_refl _)).later (Nat.le_refl _) (cs t A3 c3)
  have M3 := ((M2.below hb3).now hb3.size).later (Nat.le_refl _) (cs t A3 c3)
  have hz3 := hb3.size
  simp only [World.size_alloc] at hb3 hz3
  have g3 : w.heap.size < w3.heap.size := by omega
  have hB3 := one_step hB2 _ hb3
  have k3 := (k2.alloc (cs b A2 c2)).below hb3 (by omega)
  have p3 := (Blk.new w2 25 #[.int .i64 b.k, .int .u64 b.n, .string b.s, .slice A2 b.l.length c2]).below hb3 (by omega)
  have y0 := k3.cell 0
  have y1 := k3.cell 1
  have y2 := k3.cell 2
  have y3 := k3.cell 3
  simp at y0 y1 y2 y3
  have hcall := like_any t.size t _ _ _ (Nat.le_refl _) X3 L3
  go_wp2_with fail
  refine hcall.mono ?_
  rintro e w4 ⟨rfl, hb4⟩
  have M4 := (M3.below hb4).now hb4.size
  have hz4 := hb4.size
  simp only [World.size_alloc] at hb4 hz4
  have hB4 := one_step hB3 _ hb4
  have p4 := (p3.alloc (cs t A3 c3)).below hb4 (by omega)
  have hrd : Rd (w4.alloc (.cells #[] 22)) w.heap.size (some ⟨bk, ok, none⟩) (ks.map (Value.int .u64)) := hK.1.below (hB4.alloc hB4.size _)
  clear y0 y1 y2 y3 K1 L1 hb1 k1 K2 L2 M2 hb2 k2 L3 X3 M3 hb3 k3 hcall k0 hL1 hK1
  go_wp2_with (at_builtin; refine wpList_append_rd rfl (.tmp 75) (.tmp 76) _ rfl w4.heap.size 22 i0 _ 8 Try.underlying31 hi0 hz0 hzz1 hzz2 rfl _ 0 [] rfl (own_empty w4 _ (Nat.le_refl _) _) w.heap.size _ ks.length kc (ks.map (Value.int .u64)) rfl (by simp) (by simp) hrd (one_cells ks) ?_ ?_ ?_ ?_)
  · unfold maxLen; omega
  · omega
  · simp
  intro v5 w5 hown5 hg5 hv5
  obtain ⟨g5, c5, cur5, rfl, hlow5, hblk5, hn5, hsz5, htk5⟩ := own_form hown5 hv5
  have hb5 : Below w4.heap.size w4 w5 := ((Below.refl _ w4).alloc (Nat.le_refl _) _).grown hg5 (by simp) (by simp [Value.ownBlock])
  have hB5 := hB4.trans (hb5.mono hB4.size)
  have M5 := (M4.below hb5).now hb5.size
  have p5 := p4.below hb5 (by omega)
  have hz5 := hb5.size
  have hlt5 := hblk5.lt
  have hki := hci w5 hB5
  have hkj := hcj w5 hB5
  have s1 := hown5.cellAt i (by omega)
  have s2 := hown5.cellAt j (by omega)
  rw [List.getElem?_map, List.getElem?_eq_getElem hi] at s1
  rw [List.getElem?_map, List.getElem?_eq_getElem hj] at s2
  simp only [Option.map_some] at s1 s2
  have r1 := hown5.frozenAt i
  have r2 := hown5.frozenAt j
  clear hg5 hv5 hn5 hsz5 htk5
  generalize hkie : ks[i] = ki at *
  generalize hkje : ks[j] = kj at *
  go_wp2_with fail
  have own6 := (((hown5.stored i (.int .u64 kj)).1).stored j (.int .u64 ki)).1
  rw [map_set, map_set] at own6
  have K6 := (keys_own own6 (mem_set2 (mem_set2 hall hkj64) hki64)).2
  have hB56 : Below w4.heap.size w5 ((w5.setCell ⟨g5, i, none⟩ (.int .u64 kj)).setCell ⟨g5, j, none⟩ (.int .u64 ki)) := ((Below.refl _ _).setCell (p := ⟨g5, i, none⟩) hlow5 _).setCell (p := ⟨g5, j, none⟩) hlow5 _
  obtain ⟨v', hy'⟩ := cell?_setCell_some (w := w5) (p := ⟨g5, i, none⟩) (x := .int .u64 kj) (q := ⟨g5, j, none⟩) (v := .int .u64 kj) s2
  go_region
  obtain ⟨w6, ew6⟩ : ∃ w6, w6 = ((w5.setCell ⟨g5, i, none⟩ (.int .u64 kj)).setCell ⟨g5, j, none⟩ (.int .u64 ki)).drew := ⟨_, rfl⟩
  rw [← ew6]
  have K6' : Keys w6 (some ⟨g5, 0, none⟩) c5 ((ks.set i kj).set j ki) := by rw [ew6]; exact K6
  have hb6 : Below w4.heap.size w4 w6 := by rw [ew6]; exact (hb5.trans hB56).drew
  clear ew6 hy' hB56 K6 own6 r1 r2 s1 s2 hki hkj hlt5 p5 M5 hB5 hown5 hblk5 hb5 hlow5
  have hB6 := hB4.trans (hb6.mono hB4.size)
  have M6 := (M4.below hb6).now hb6.size
  have p6 := p4.below hb6 (by omega)
  have hz6 := hb6.size
  have y0 := p6.cell 0
  have y1 := p6.cell 1
  have y2 := p6.cell 2
  have y3 := p6.cell 3
  simp at y0 y1 y2 y3
  have g6 : w2.heap.size < w6.heap.size := by omega
  go_wp2_with fail
  refine (h4 _ _ _ _ M6 K6').mono ?_
  rintro e w7 ⟨hb7, A7, c7, rfl, hH7, hF7⟩
  have M7 := ((M6.below hb7).now hb7.size).later (Nat.le_refl _) (cs q A7 c7)
  have hz7 := hb7.size
  have hB7 := hB6.trans (hb7.mono hB6.size)
  have hB7' := hB7.alloc hB7.size (cs q A7 c7)
  have p7 := p6.below hb7 (by omega)
  have hki7 := hci w7 hB7
  have hkj7 := hcj w7 hB7
  have gk7 : bk < w7.heap.size := by have := hB7.size; omega
  have g7 : w2.heap.size < w7.heap.size := by omega
  clear y0 y1 y2 y3 K6' M6 M4 hb6 p6 p4
  rcases HQ.out with ⟨d1, rfl⟩ | ⟨d1, rfl⟩
  all_goals
    go_wp2_with fail
    go_quiet (fail)
    generalize hw8 : World.drewN (World.alloc w7 _) _ = w8
    have hb8 : Below (w7.alloc (cs q A7 c7)).heap.size (w7.alloc (cs q A7 c7)) w8 := by rw [← hw8]; exact ⟨rfl, rfl, rfl, Nat.le_refl _, fun _ _ => rfl⟩
    clear hw8
    have M8 := (M7.below hb8).now hb8.size
    have p8 := (p7.alloc (cs q A7 c7)).below hb8 (by simp; omega)
    have hB8 := hB7'.trans (hb8.mono hB7'.size)
    have hrd8 : Rd (w8.alloc (.cells #[] 22)) w.heap.size (some ⟨bk, ok, none⟩) (ks.map (Value.int .u64)) := hK.1.below (hB8.alloc hB8.size _)
    have hz8 := hb8.size
    simp only [World.size_alloc] at hz8
    clear hb8 M7 p7 hB7' hki7 hkj7 hB7
    go_wp2_with (at_builtin; refine wpList_append_rd rfl (.tmp 118) (.tmp 119) _ rfl w8.heap.size 22 i0 _ 8 Try.underlying31 hi0 hz0 hzz1 hzz2 rfl _ 0 [] rfl (own_empty w8 _ (Nat.le_refl _) _) w.heap.size _ ks.length kc (ks.map (Value.int .u64)) rfl (by simp) (by simp) hrd8 (one_cells ks) ?a1 ?a2 ?a3 ?a4)
    case a1 => unfold maxLen; omega
    case a2 => omega
    case a3 => simp
    case a4 =>
      intro v9 w9 hown9 hg9 hv9
      obtain ⟨g9, c9, cur9, rfl, hlow9, hblk9, hn9, hsz9, htk9⟩ := own_form hown9 hv9
      have hb9 : Below w8.heap.size w8 w9 := ((Below.refl _ w8).alloc (Nat.le_refl _) _).grown hg9 (by simp) (by simp [Value.ownBlock])
      have hB9 := hB8.trans (hb9.mono hB8.size)
      have hz9 := hb9.size
      have hlt9 := hblk9.lt
      have hki9 := hci w9 hB9
      have s1 := hown9.cellAt i (by omega)
      rw [List.getElem?_map, List.getElem?_eq_getElem hi, hkie] at s1
      simp only [Option.map_some] at s1
      have r1 := hown9.frozenAt i
      clear hg9 hv9 hn9 hsz9 htk9 hrd8
      have p9 := p8.below hb9 (by omega)
      have y0 := p9.cell 0
      have y1 := p9.cell 1
      have y2 := p9.cell 2
      have y3 := p9.cell 3
      simp at y0 y1 y2 y3
      have g9' : w2.heap.size < w9.heap.size := by omega
      go_wp2_with fail
      have ew : IntKind.u64.wrap (ki + 1) = (ki + 1) % 18446744073709551616 := by rw [IntKind.wrap_u64]
      have hx1 : IntKind.u64.wrap (ki + 1) ≠ ki := by rw [ew]; omega
      have hx2 : 0 ≤ IntKind.u64.wrap (ki + 1) ∧ IntKind.u64.wrap (ki + 1) < 18446744073709551616 := by rw [ew]; omega
      have ownA := (hown9.stored i (.int .u64 (IntKind.u64.wrap (ki + 1)))).1
      rw [map_set] at ownA
      have KA := (keys_own ownA (mem_set2 hall hx2)).2
      have hbA : Below w8.heap.size w8 (w9.setCell ⟨g9, i, none⟩ (.int .u64 (IntKind.u64.wrap (ki + 1)))) := hb9.setCell (p := ⟨g9, i, none⟩) hlow9 _
      refine (h5 _ _ _ _ _ hx1 ((M8.below hbA).now hbA.size) KA).mono ?_
      rintro e wB ⟨hbB, AB, cB, rfl, hHB, hFB⟩
      have hBA := hB8.trans (hbA.mono hB8.size)
      have hBB := hBA.trans (hbB.mono hBA.size)
      go_wp2_with fail
      go_ret
      exact ⟨rfl, hBB.alloc hBB.size _⟩

theorem law_orders (t : T) (v : Value) (K : Option Addr) (kc : Nat) (ks : List Int) (i j : Int) (w : World) (hL : Lies w w.heap.size t v) (hK : Keys w K kc ks) :
    Calls Try.prog 7 #[T.val t v, .slice K ks.length kc, .int .i64 i, .int .i64 j] w fun e w' => e = .returned (.bool true) ∧ Below w.heap.size w w' := by
  by_cases hE : (wrapT t ks).2 = 0
  · obtain ⟨A, c, xs, rfl, _⟩ := hL.open_
    have hlen := wrapped_len hE
    have hun := wrapped hE
    have e : wrapT t ks = ((wrapT t ks).1, 0) := Prod.ext rfl hE
    have h1 := fun wx (hx : Lies wx wx.heap.size t (.slice A t.l.length c)) (hy : Keys wx K kc ks) => refWrap_any t _ K kc ks wx hx hy
    have h2 := fun wx (hx : Lies wx wx.heap.size t (.slice A t.l.length c)) (hy : Keys wx K kc ks) => wrap_any t _ K kc ks wx hx hy
    have h3 := fun wx v K' c' us (hu : us.length = ks.length) (hx : Lies wx wx.heap.size (wrapT t ks).1 v) (hy : Keys wx K' c' us) => unwrap_any (wrapT t ks).1 v K' c' us wx hx hy
    generalize (wrapT t ks).1 = b at hun e h3
    rw [e] at h1 h2
    have h3a : ∀ wx v, Lies wx wx.heap.size b v → Keys wx K kc ks → Calls Try.prog 15 #[T.val b v, .slice K ks.length kc] wx (Ans2 wx t 0) := fun wx v hx hy => by
      have := h3 wx v K kc ks rfl hx hy
      rw [hun ks rfl, if_pos rfl] at this
      exact this
    by_cases hin : (0 ≤ i ∧ i < (ks.length : Int)) ∧ (0 ≤ j ∧ j < (ks.length : Int))
    · obtain ⟨⟨a1, a2⟩, a3, a4⟩ := hin
      obtain ⟨ni, rfl⟩ := Int.eq_ofNat_of_zero_le a1
      obtain ⟨nj, rfl⟩ := Int.eq_ofNat_of_zero_le a3
      have hi : ni < ks.length := by omega
      have hj : nj < ks.length := by omega
      have h5 : ∀ wx v K' c' x, x ≠ ks[ni] → Lies wx wx.heap.size b v → Keys wx K' c' (ks.set ni x) → Calls Try.prog 15 #[T.val b v, .slice K' ks.length c'] wx (Ans2 wx zT 31) := fun wx v K' c' x hx hl hy => by
        have := h3 wx v K' c' (ks.set ni x) (by simp) hl hy
        rw [hun _ (by simp), if_neg (spoilt hi hx), List.length_set] at this
        exact this
      by_cases heq : ks[ni] = ks[nj]
      · refine orders_in t b t 0 A c K kc ks ni nj w hL hK hlen hi hj h1 h2 h3a (fun wx v K' c' hl hy => ?_) h5 (.inl ⟨by simpa using heq, rfl⟩)
        have := h3 wx v K' c' _ (by simp) hl hy
        rw [hun _ (by simp), if_pos ((swapped hi hj).2 heq), List.length_set, List.length_set] at this
        exact this
      · refine orders_in t b zT 31 A c K kc ks ni nj w hL hK hlen hi hj h1 h2 h3a (fun wx v K' c' hl hy => ?_) h5 (.inr ⟨by simpa using heq, rfl⟩)
        have := h3 wx v K' c' _ (by simp) hl hy
        rw [hun _ (by simp), if_neg (fun e => heq ((swapped hi hj).1 e)), List.length_set, List.length_set] at this
        exact this
    · exact orders_out t b A c K kc ks i j w hL hK hlen h1 h2 h3a (by omega)
  · exact orders_bad t v K kc ks i j w hL hK hE
end Go.Proofs.Ytgdmhfdlijeogaa.boxes
