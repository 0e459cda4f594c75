/- Encode and Size; the document's own Bytes and Encode. -/
import Derived.Test.YtgdmhfdlijeogaaEnc
import Derived.Deep.RegionHeld3
namespace Go.Proofs.Ytgdmhfdlijeogaa.encs
set_option linter.unusedVariables false
set_option linter.unusedSimpArgs false
open Go.RowKit Go.Proofs.Ytgdmhfdlijeogaa.base Go.Proofs.Ytgdmhfdlijeogaa.tm Go.Proofs.Ytgdmhfdlijeogaa.bytes Go.Proofs.Ytgdmhfdlijeogaa.lies Go.Proofs.Ytgdmhfdlijeogaa.rights

theorem right_ok {t : T} (h : t.right = 0) : t.size ≤ 4000 ∧ t.deep ≤ 12 ∧ t.shaped = true := by
  unfold T.right at h
  split at h
  · cases h
  · split at h
    · cases h
    · split at h
      · refine ⟨by omega, by omega, by assumption⟩
      · cases h
theorem ok_right {t : T} (h1 : t.size ≤ 4000) (h2 : t.deep ≤ 12) (h3 : t.shaped = true) : t.right = 0 := by
  unfold T.right
  rw [if_neg (by omega), if_neg (by omega), if_pos h3]

set_option maxRecDepth 100000 in
theorem encode_ok (t : T) (v : Value) (w : World) (hL : Lies w w.heap.size t v) (hR : t.right = 0) :
    Calls Try.prog 28 #[T.val t v] w fun e w' => e = .returned (.tuple #[.string ⟨t.enc.toArray⟩, .int .i64 0]) ∧ Below w.heap.size w w' := by
  obtain ⟨A, c, xs, rfl, hk, hn, hs, hlc, hc, hr, hl⟩ := hL.open_
  obtain ⟨r1, r2, r3⟩ := right_ok hR
  have h1 := fun wx (hx : Lies wx wx.heap.size t (.slice A t.l.length c)) => adds.right_any t _ wx hx
  rw [hR] at h1
  have hL1 := hL.later (Nat.le_refl _) (.cells #[.int .i64 t.k, .int .u64 t.n, .string t.s, .slice A t.l.length c] 25)
  have h2 := fun wx (hx : Lies wx w.heap.size t (.slice A t.l.length c)) (hB : w.heap.size ≤ wx.heap.size) => append_any t.size t _ _ [] w.heap.size wx wx (Nat.le_refl _) r3 hx hB (Ext.nil wx _) (by simp; omega)
  have hLa := hL.alloc (Nat.le_refl _) (.cells #[.int .i64 t.k, .int .u64 t.n, .string t.s, .slice A t.l.length c] 25)
  clear hR
  go_enter Try.func28, Try.ntmps28
  go_wp2_with (first
    | (go_at_call 21; refine (h1 _ hL1).mono ?_; rintro e w1 ⟨rfl, hb1⟩; obtain ⟨hc1, hf1⟩ := bcell hb1; have hz1 : w.heap.size < w1.heap.size := by have := hb1.size; simp at this; omega)
    | (go_at_call 37; refine (h2 _ (hLa.below (hb1.mono (by simp))) (by omega)).mono ?_; rintro e w2 ⟨v2, rfl, hE, hz2⟩; have hcv := hE.string))
  go_ret2
  exact ⟨rfl, (below_call (Below.refl _ _) hb1).trans hE.below⟩

set_option maxRecDepth 100000 in
theorem encode_bad (t : T) (v : Value) (w : World) (hL : Lies w w.heap.size t v) (hR : t.right ≠ 0) :
    Calls Try.prog 28 #[T.val t v] w fun e w' => e = .returned (.tuple #[.string ⟨#[]⟩, .int .i64 t.right]) ∧ Below w.heap.size w w' := by
  obtain ⟨A, c, xs, rfl, hk, hn, hs, hlc, hc, hr, hl⟩ := hL.open_
  have h1 := fun wx (hx : Lies wx wx.heap.size t (.slice A t.l.length c)) => adds.right_any t _ wx hx
  have hL1 := hL.later (Nat.le_refl _) (.cells #[.int .i64 t.k, .int .u64 t.n, .string t.s, .slice A t.l.length c] 25)
  have d1 : (t.right != 0) = true := by simpa using hR
  clear hR
  go_enter Try.func28, Try.ntmps28
  go_wp2_with (go_at_call 21; refine (h1 _ hL1).mono ?_; rintro e w1 ⟨rfl, hb1⟩)
  go_ret2
  exact ⟨rfl, below_call (Below.refl _ _) hb1⟩

/-- what Encode answers -/
def encVal (t : T) : Value := if t.right = 0 then .tuple #[.string ⟨t.enc.toArray⟩, .int .i64 0] else .tuple #[.string ⟨#[]⟩, .int .i64 t.right]

end Go.Proofs.Ytgdmhfdlijeogaa.encs
