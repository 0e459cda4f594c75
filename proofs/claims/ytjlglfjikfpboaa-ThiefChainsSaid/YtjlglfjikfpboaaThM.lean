/- ThiefTwice, ThiefGrows: the walks. -/
import Derived.Test.YtjlglfjikfpboaaThL


namespace Go.Proofs.Ytjlglfjikfpboaa.thiefs
set_option linter.unusedVariables false
set_option linter.unusedSimpArgs false
open Go.RowKit Go.Shelf Go.Lib Go.Proofs.Ytjlglfjikfpboaa.base Go.Proofs.Ytjlglfjikfpboaa.tm Go.Proofs.Ytjlglfjikfpboaa.lies Go.Proofs.Ytjlglfjikfpboaa.copies Go.Proofs.Ytjlglfjikfpboaa.reads Go.Proofs.Ytjlglfjikfpboaa.texts

theorem has_yes (s : ByteArray) (l : List ByteArray) (A0 : Option Addr) (c0 : Nat) (w : World) (hT : Ts w w.heap.size l A0 c0) (hl : l.length ≤ 125) (hs : s.size ≤ maxLen) (hm : s ∈ l) (hp : pieceT s = .mk 2 0 s []) :
    Calls Try.prog 18 #[.string s, .slice A0 l.length c0] w fun e w' => e = .returned (.bool true) ∧ Below w.heap.size w w' :=
  (has_ok s l A0 c0 w hT hl hs).mono fun e w' ⟨K, A, m, h1, h2, h3⟩ => ⟨by rw [h1, has_piece h2 hm hp], h3⟩
theorem ff_size : ff.size ≤ maxLen := by unfold maxLen; decide
theorem own_size : ownS.size ≤ maxLen := by unfold maxLen; decide
theorem ts_new (w : World) (s : ByteArray) (hs : s.size ≤ maxLen) : Ts (w.alloc (.cells #[.string s] 9)) (w.alloc (.cells #[.string s] 9)).heap.size [s] (some ⟨w.heap.size, 0, none⟩) 1 := by
  rw [World.size_alloc]; exact ts_one w s hs
theorem mem_app {l m : List ByteArray} (h1 : ∀ x ∈ l, x.size ≤ maxLen) (h2 : ∀ x ∈ m, x.size ≤ maxLen) : ∀ x ∈ l ++ m, x.size ≤ maxLen := fun x hx => (List.mem_append.1 hx).elim (h1 x) (h2 x)

set_option maxRecDepth 100000 in
set_option maxHeartbeats 2000000 in
theorem law_twice (l : List ByteArray) (A : Option Addr) (c : Nat) (w : World) (hT : Ts w w.heap.size l A c) :
    Calls Try.prog 8 #[.slice A l.length c] w fun e w' => e = .returned (.bool true) ∧ Below w.heap.size w w' := by
  have bE := (Below.refl w.heap.size w).alloc (Nat.le_refl _) (.cells #[] 9)
  go_enter Try.func8, Try.ntmps8
  go_wp2_with fail
  refine (short_any l A c 30 w hT (by omega)).mono ?_
  rintro e w0 ⟨c1, rfl, hL, rfl⟩
  have h30 : (l.take 30).length ≤ 30 := by rw [List.length_take]; omega
  generalize l.take 30 = L at *
  clear hT
  obtain ⟨LL, hLL⟩ : ∃ X, L ++ L = X := ⟨_, rfl⟩
  have hl60 : LL.length ≤ 60 := by rw [← hLL, List.length_append]; omega
  have hsLL : ∀ x ∈ LL, x.size ≤ maxLen := by rw [← hLL]; exact mem_app hL.2.2.2.2 hL.2.2.2.2
  have HLL := lies.lay hLL
  clear hLL
  go_wp2_with (first
    | (at_builtin; refine wp_texts rfl _ _ rfl (lm := LL) HLL.out ho1 rfl (hL.now b1) rfl (by omega) ?_; intro v2 w2 ho2 hk2 hat2; obtain ⟨A2, c2, rfl, hT2⟩ := srow_ts ho2 (by omega) hsLL; have b2 : Below w0.heap.size w0 w2 := b1.trans (hk2.below (fun g hg => by rcases hat1 g hg with h | h; (cases h; exact Nat.le_refl _); have := h.1; simp at this; omega) b1.size))
    | (at_builtin; refine wp_texts rfl _ _ rfl (lm := L) rfl (srow_new w0) rfl (hL.now bE) rfl (by simp only [List.length_nil]; omega) ?_; intro v1 w1 ho1 hk1 hat1; have b1 : Below w0.heap.size w0 w1 := bE.trans (hk1.below (fun g hg => by cases hg; exact Nat.le_refl _) bE.size)))
  have bF := b2.alloc b2.size (.cells #[.string ff] 9)
  have d2 := (Below.refl w2.heap.size w2).alloc (Nat.le_refl _) (.cells #[.string ff] 9)
  refine (has_yes ff [ff] (some ⟨w2.heap.size, 0, none⟩) 1 _ (ts_new w2 ff ff_size) (by simp) ff_size (by simp) piece_ff).mono ?_
  rintro e x1 ⟨rfl, hb1⟩
  have b1 := bF.trans (hb1.mono bF.size)
  have d1 := d2.trans (hb1.mono d2.size)
  go_wp2_with fail
  refine (atoms_ok L A c1 _ (hL.now b1) (by omega)).mono ?_
  rintro e x2 ⟨K1, A1, m1, v1, rfl, lo1, ⟨tx1, up1⟩, cn1, hb2⟩
  have b2 := b1.trans (hb2.mono b1.size)
  have d2 := d1.trans (hb2.mono d1.size)
  go_wp2_with fail
  refine (atoms_ok LL A2 c2 _ (hT2.now d2) (by omega)).mono ?_
  rintro e x3 ⟨K2, A9, m2, v2, rfl, lo2, ⟨tx2, up2⟩, cn2, hb3⟩
  have b3 := b2.trans (hb3.mono b2.size)
  have d3 := d2.trans (hb3.mono d2.size)
  rw [← HLL.out, pcs_app] at lo2
  obtain rfl : A9 = A1 := lo2.eqA lo1.twice up2 up1
  go_wp2_with fail
  refine (sameTexts_any v1 v2 0 0 A9 _ (tx1.below hb3) tx2).mono ?_
  rintro e x4 ⟨rfl, hb4⟩
  have b4 := b3.trans (hb4.mono b3.size)
  have d4 := d3.trans (hb4.mono d3.size)
  go_wp2_with fail
  refine (keys_ok L A c1 _ (hL.now b4) (by omega)).mono ?_
  rintro e x5 ⟨K3, A3, m3, v3, rfl, lo3, ⟨ky3, up3⟩, cn3, hb5⟩
  have b5 := b4.trans (hb5.mono b4.size)
  have d5 := d4.trans (hb5.mono d4.size)
  go_wp2_with fail
  refine (keys_ok LL A2 c2 _ (hT2.now d5) (by omega)).mono ?_
  rintro e x6 ⟨K4, A4, m4, v4, rfl, lo4, ⟨ky4, up4⟩, cn4, hb6⟩
  have b6 := b5.trans (hb6.mono b5.size)
  have d6 := d5.trans (hb6.mono d5.size)
  rw [← HLL.out, pcs_app] at lo4
  obtain rfl : K4 = K3 := lo4.eqK lo3.twice up4 up3
  go_wp2_with fail
  refine (sameKeys_any v3 v4 K4 _ (ky3.below hb6) ky4).mono ?_
  rintro e x7 ⟨rfl, hb7⟩
  have b7 := b6.trans (hb7.mono b6.size)
  have d7 := d6.trans (hb7.mono d6.size)
  go_wp2_with fail
  refine (shut_ok LL A2 c2 _ (hT2.now d7) (by omega)).mono ?_
  rintro e x8 ⟨K5, A5, m5, rfl, cn5, lo5, hb8⟩
  have b8 := b7.trans (hb8.mono b7.size)
  have d8 := d7.trans (hb8.mono d7.size)
  go_wp2_with fail
  refine (shut_ok L A c1 _ (hL.now b8) (by omega)).mono ?_
  rintro e x9 ⟨K6, A6, m6, rfl, cn6, lo6, hb9⟩
  have b9 := b8.trans (hb9.mono b8.size)
  have d9 := d8.trans (hb9.mono d8.size)
  rw [← HLL.out, pcs_app] at lo5
  obtain rfl : m5 = 2 * m6 := lo5.eqM lo6.twice
  have e9 : IntKind.i64.wrap (2 * (m6 : Int)) = 2 * (m6 : Int) := IntWalk.i64_in _ (by omega)
  have e8 : wrap64 (2 * (m6 : Int)) = 2 * (m6 : Int) := IntWalk.wrap64_in _ (by omega)
  go_wp2_with fail
  go_ret
  exact ⟨by first | rfl | simp, b9⟩

end Go.Proofs.Ytjlglfjikfpboaa.thiefs
