/- ThiefGrows: the walk. -/
import Derived.Test.YtjlglfjikfpboaaThM


namespace Go.Proofs.Ytjlglfjikfpboaa.thiefs
set_option linter.unusedVariables false
set_option linter.unusedSimpArgs false
open Go.RowKit Go.Shelf Go.Lib Go.Proofs.Ytjlglfjikfpboaa.base Go.Proofs.Ytjlglfjikfpboaa.tm Go.Proofs.Ytjlglfjikfpboaa.lies Go.Proofs.Ytjlglfjikfpboaa.copies Go.Proofs.Ytjlglfjikfpboaa.reads Go.Proofs.Ytjlglfjikfpboaa.texts

set_option maxRecDepth 100000 in
set_option maxHeartbeats 4000000 in
theorem law_grows (l m : List ByteArray) (A B : Option Addr) (c d : Nat) (w : World) (hT : Ts w w.heap.size l A c) (hU : Ts w w.heap.size m B d) :
    Calls Try.prog 4 #[.slice A l.length c, .slice B m.length d] w fun e w' => e = .returned (.bool true) ∧ Below w.heap.size w w' := by
  have bE := (Below.refl w.heap.size w).alloc (Nat.le_refl _) (.cells #[] 9)
  go_enter Try.func4, Try.ntmps4
  go_wp2_with fail
  refine (short_any l A c 30 w hT (by omega)).mono ?_
  rintro e w0 ⟨c1, rfl, hL, hw0⟩
  obtain rfl : w = w0 := hw0.symm
  clear hw0
  have h30 : (l.take 30).length ≤ 30 := by rw [List.length_take]; omega
  generalize l.take 30 = L at *
  clear hT
  go_wp2_with fail
  refine (short_any m B d 30 w hU (by omega)).mono ?_
  rintro e w0 ⟨cm1, rfl, hM, hw0⟩
  obtain rfl : w = w0 := hw0.symm
  clear hw0
  have h31 : (m.take 30).length ≤ 30 := by rw [List.length_take]; omega
  generalize m.take 30 = M at *
  clear hU
  obtain ⟨LB, hLB⟩ : ∃ X, L ++ M = X := ⟨_, rfl⟩
  obtain ⟨LT, hLT⟩ : ∃ X, M ++ L = X := ⟨_, rfl⟩
  have hl60 : LB.length ≤ 60 := by rw [← hLB, List.length_append]; omega
  have hl61 : LT.length ≤ 60 := by rw [← hLT, List.length_append]; omega
  have hsB : ∀ x ∈ LB, x.size ≤ maxLen := by rw [← hLB]; exact mem_app hL.2.2.2.2 hM.2.2.2.2
  have hsT : ∀ x ∈ LT, x.size ≤ maxLen := by rw [← hLT]; exact mem_app hM.2.2.2.2 hL.2.2.2.2
  have HLB := lies.lay hLB
  have HLT := lies.lay hLT
  clear hLB hLT
  go_wp2_with (first
    | (at_builtin; refine wp_texts rfl _ _ rfl (lm := LT) HLT.out ho3 rfl (hL.now b3) rfl (by omega) ?_; intro v4 w4 ho4 hk4 hat4; obtain ⟨A4, c4, rfl, hT4⟩ := srow_ts ho4 (by omega) hsT; have e4 : Below w2.heap.size w2 w4 := e3.trans (hk4.below (fun g hg => by rcases hat3 g hg with h | h; (cases h; exact Nat.le_refl _); have := h.1; simp at this; omega) e3.size))
    | (at_builtin; refine wp_texts rfl _ _ rfl (lm := M) rfl (srow_new w2) rfl (hM.now bF) rfl (by simp only [List.length_nil]; omega) ?_; intro v3 w3 ho3 hk3 hat3; have e3 : Below w2.heap.size w2 w3 := eF.trans (hk3.below (fun g hg => by cases hg; exact Nat.le_refl _) eF.size); have b3 := b2.trans (e3.mono b2.size))
    | (at_builtin; refine wp_texts rfl _ _ rfl (lm := LB) HLB.out ho1 rfl (hM.now b1) rfl (by omega) ?_; intro v2 w2 ho2 hk2 hat2; obtain ⟨A2, c2, rfl, hT2⟩ := srow_ts ho2 (by omega) hsB; have b2 : Below w.heap.size w w2 := b1.trans (hk2.below (fun g hg => by rcases hat1 g hg with h | h; (cases h; exact Nat.le_refl _); have := h.1; simp at this; omega) b1.size); have hown2 : ∀ g, (Value.slice A2 LB.length c2).ownBlock = some g → w.heap.size ≤ g := (fun g hg => by rcases hat2 g hg with h | h; (rcases hat1 g h with h2 | h2; (cases h2; exact Nat.le_refl _); have := h2.1; simp at this; omega); have := h.1; have := b1.size; omega); have eF := (Below.refl w2.heap.size w2).alloc (Nat.le_refl _) (.cells #[] 9); have bF := b2.trans (eF.mono b2.size))
    | (at_builtin; refine wp_texts rfl _ _ rfl (lm := L) rfl (srow_new w) rfl (hL.now bE) rfl (by simp only [List.length_nil]; omega) ?_; intro v1 w1 ho1 hk1 hat1; have b1 : Below w.heap.size w w1 := bE.trans (hk1.below (fun g hg => by cases hg; exact Nat.le_refl _) bE.size)))
  have b4 := b2.trans (e4.mono b2.size)
  clear hk4 hat4 hk3 hat3 hk2 hat2 hk1 hat1 ho4 ho3 ho1
  refine (atoms_ok L A c1 _ (hL.now b4) (by omega)).mono ?_
  rintro e x1 ⟨K1, A1, m1, v1, rfl, lo1, ⟨tx1, up1⟩, cn1, hb1⟩
  have b1 := b4.trans (hb1.mono b4.size)
  have d1 := e4.trans (hb1.mono e4.size)
  have e1 := (Below.refl w4.heap.size w4).trans (hb1.mono (Below.refl w4.heap.size w4).size)
  go_wp2_with fail
  refine (atoms_ok LB A2 c2 _ (hT2.now d1) (by omega)).mono ?_
  rintro e x2 ⟨K2, AY, m2, v2, rfl, lo2, ⟨tx2, up2⟩, cn2, hb2⟩
  have b2 := b1.trans (hb2.mono b1.size)
  have d2 := d1.trans (hb2.mono d1.size)
  have e2 := e1.trans (hb2.mono e1.size)
  rw [← HLB.out, pcs_app] at lo2
  go_wp2_with fail
  refine (keys_ok L A c1 _ (hL.now b2) (by omega)).mono ?_
  rintro e x3 ⟨KX, A3, m3, v3, rfl, lo3, ⟨ky3, up3⟩, cn3, hb3⟩
  have b3 := b2.trans (hb3.mono b2.size)
  have d3 := d2.trans (hb3.mono d2.size)
  have e3 := e2.trans (hb3.mono e2.size)
  go_wp2_with fail
  refine (keys_ok LB A2 c2 _ (hT2.now d3) (by omega)).mono ?_
  rintro e x4 ⟨KM, A4', m4, v4, rfl, lo4, ⟨ky4, up4⟩, cn4, hb4⟩
  have b4 := b3.trans (hb4.mono b3.size)
  have d4 := d3.trans (hb4.mono d3.size)
  have e4 := e3.trans (hb4.mono e3.size)
  rw [← HLB.out, pcs_app] at lo4
  go_wp2_with fail
  refine (inAll_any v1 v2 0 0 A1 AY _ (((tx1.below hb2).below hb3).below hb4) ((tx2.below hb3).below hb4) ((lo1.more lo2).2)).mono ?_
  rintro e w5 ⟨rfl, rfl⟩
  go_wp2_with fail
  refine (atoms_ok M B cm1 _ (hM.now b4) (by omega)).mono ?_
  rintro e x5 ⟨K5, A5, m5, v5, rfl, lo5, ⟨tx5, up5⟩, cn5, hb5⟩
  have b5 := b4.trans (hb5.mono b4.size)
  have d5 := d4.trans (hb5.mono d4.size)
  have e5 := e4.trans (hb5.mono e4.size)
  go_wp2_with fail
  refine (inAll_any v5 v2 0 0 A5 AY _ tx5 (((tx2.below hb3).below hb4).below hb5) ((lo5.more lo2.turned).2)).mono ?_
  rintro e w6 ⟨rfl, rfl⟩
  go_wp2_with fail
  refine (atoms_ok LT A4 c4 _ (hT4.now e5) (by omega)).mono ?_
  rintro e x6 ⟨K6, A6, m6, v6, rfl, lo6, ⟨tx6, up6⟩, cn6, hb6⟩
  have b6 := b5.trans (hb6.mono b5.size)
  have d6 := d5.trans (hb6.mono d5.size)
  have e6 := e5.trans (hb6.mono e5.size)
  rw [← HLT.out, pcs_app] at lo6
  obtain rfl : A6 = AY := lo6.eqA lo2.turned up6 up2
  go_wp2_with fail
  refine (sameTexts_any v2 v6 0 0 A6 _ ((((tx2.below hb3).below hb4).below hb5).below hb6) tx6).mono ?_
  rintro e x7 ⟨rfl, hb7⟩
  have b7 := b6.trans (hb7.mono b6.size)
  have d7 := d6.trans (hb7.mono d6.size)
  have e7 := e6.trans (hb7.mono e6.size)
  go_wp2_with fail
  refine (keys_ok LT A4 c4 _ (hT4.now e7) (by omega)).mono ?_
  rintro e x8 ⟨K8, A8, m8, v8, rfl, lo8, ⟨ky8, up8⟩, cn8, hb8⟩
  have b8 := b7.trans (hb8.mono b7.size)
  have d8 := d7.trans (hb8.mono d7.size)
  have e8 := e7.trans (hb8.mono e7.size)
  rw [← HLT.out, pcs_app] at lo8
  obtain rfl : K8 = KM := lo8.eqK lo4.turned up8 up4
  go_wp2_with fail
  refine (sameKeys_any v4 v8 K8 _ ((((ky4.below hb5).below hb6).below hb7).below hb8) ky8).mono ?_
  rintro e x9 ⟨rfl, hb9⟩
  have b9 := b8.trans (hb9.mono b8.size)
  have d9 := d8.trans (hb9.mono d8.size)
  have e9 := e8.trans (hb9.mono e8.size)
  go_wp2_with fail
  refine (shut_ok LB A2 c2 _ (hT2.now d9) (by omega)).mono ?_
  rintro e x10 ⟨K10, A10, m10, rfl, cn10, lo10, hb10⟩
  have b10 := b9.trans (hb10.mono b9.size)
  have d10 := d9.trans (hb10.mono d9.size)
  have e10 := e9.trans (hb10.mono e9.size)
  rw [← HLB.out, pcs_app] at lo10
  go_wp2_with fail
  refine (shut_ok LT A4 c4 _ (hT4.now e10) (by omega)).mono ?_
  rintro e x11 ⟨K11, A11, m11, rfl, cn11, lo11, hb11⟩
  have b11 := b10.trans (hb11.mono b10.size)
  have d11 := d10.trans (hb11.mono d10.size)
  have e11 := e10.trans (hb11.mono e10.size)
  rw [← HLT.out, pcs_app] at lo11
  obtain rfl : m11 = m10 := lo11.eqM lo10.turned
  have hsub : ∀ n ∈ KX, n ∈ K8 := (lo3.more lo4).1
  have kyX := (((((((ky3.below hb4).below hb5).below hb6).below hb7).below hb8).below hb9).below hb10).below hb11
  have kyM := ((((((ky4.below hb5).below hb6).below hb7).below hb8).below hb9).below hb10).below hb11
  have hoB : Srow x11 LB (.slice A2 LB.length c2) := row_below ho2 d11
  have hbX : Below w.heap.size w x11 := b11
  have hd0 : (((m11 : Nat) : Int) != (m11 : Int)) = false := by simp
  obtain ⟨AX, cX, rfl, hcX, hlX, hrX⟩ := kyX
  clear tx1 tx2 tx5 tx6 ky3 ky4 ky8 hL hM hT2 hT4
  go_wp2_with fail
  go_loopw [70] (fun i wr => ∃ j : Nat, j ≤ KX.length ∧ i = .int .i64 (j : Int) ∧ wr = x11) (fun i _ => KX.length - (intOf i).toNat)
  case atStart => exact ⟨0, Nat.zero_le _, rfl, rfl⟩
  case round =>
    obtain ⟨j, hj, rfl, rfl⟩ := hrel
    by_cases hlt : j < KX.length
    · obtain ⟨b, off, rfl, hb, e0⟩ := hrX.at_ (k := j) (by simpa using hlt)
      simp only [List.getElem_map] at e0
      have hk := hasKey_yes v4 K8 KX[j] wr kyM (hsub _ (List.getElem_mem hlt))
      generalize KX[j] = kx at *
      clear hsub
      go_wp2_with (go_at_call 21; refine hk.mono ?_; rintro e w9 ⟨rfl, rfl⟩)
      exact ⟨⟨j + 1, hlt, by go_num, by first | rfl | trivial⟩, by simp [intOf]; omega⟩
    · have hown := row_below hoB ((Below.refl wr.heap.size wr).alloc (Nat.le_refl _) (.cells #[.string ownS] 9))
      obtain ⟨LO, hLO⟩ : ∃ X, LB ++ [ownS] = X := ⟨_, rfl⟩
      have hlo : LO.length ≤ 61 := by rw [← hLO, List.length_append]; simp; omega
      have hsO : ∀ x ∈ LO, x.size ≤ maxLen := by rw [← hLO]; exact mem_app hsB (fun x hx => by rw [List.mem_singleton] at hx; subst hx; exact own_size)
      have hmO : ownS ∈ LO := by rw [← hLO]; simp
      have HLO := lies.lay hLO
      clear hLO hsub
      go_wp2_with (at_builtin; refine wp_texts rfl _ _ rfl (lm := LO) HLO.out hown rfl (ts_new wr ownS own_size) rfl (by simp; omega) ?_; intro v20 w20 ho20 hk20 hat20; obtain ⟨A20, c20, rfl, hT20⟩ := srow_ts ho20 (by omega) hsO)
      have b20 : Below w.heap.size w w20 := (hbX.alloc hbX.size (.cells #[.string ownS] 9)).trans (hk20.below (fun g hg => hown2 g hg) (hbX.alloc hbX.size (.cells #[.string ownS] 9)).size)
      refine (atoms_ok LO A20 c20 _ hT20 (by omega)).mono ?_
      rintro e w21 ⟨K21, A21, m21, v21, rfl, lo21, ⟨tx21, up21⟩, cn21, hb21⟩
      have hin := in_any v21 0 A21 ownS w21 tx21
      rw [tm.toList_eq, show decide (ownS.data.toList ∈ A21) = true from has_piece lo21 hmO piece_own] at hin
      go_wp2_with fail
      refine hin.mono ?_
      rintro e w22 ⟨rfl, rfl⟩
      go_wp2_with fail
      go_ret
      exact ⟨rfl, b20.trans (hb21.mono b20.size)⟩

end Go.Proofs.Ytjlglfjikfpboaa.thiefs
