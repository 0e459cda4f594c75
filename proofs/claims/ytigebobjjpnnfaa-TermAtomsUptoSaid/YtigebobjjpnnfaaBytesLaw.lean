/- The walk of the law TermBytes: it answers true and writes nothing that was there. -/
import Derived.Test.YtigebobjjpnnfaaRefEnc
namespace Go.Proofs.Ytigebobjjpnnfaa.refEncs
open Go.RowKit Go.Proofs.Ytigebobjjpnnfaa.base Go.Proofs.Ytigebobjjpnnfaa.tm Go.Proofs.Ytigebobjjpnnfaa.bytes Go.Proofs.Ytigebobjjpnnfaa.lies Go.Proofs.Ytigebobjjpnnfaa.rights Go.Proofs.Ytigebobjjpnnfaa.encs

set_option maxRecDepth 100000 in
theorem refEncode_ok (t : T) (v : Value) (w : World) (hL : Lies w w.heap.size t v) (hR : t.right = 0) :
    Calls Try.prog 19 #[T.val t v] w fun e w' => e = .returned (.tuple #[.string ⟨t.enc.toArray⟩, .int .i64 0]) ∧ Below w.heap.size w w' := by
  obtain ⟨A, c, xs, rfl, hk, hn, hs, hlc, hc, hr, hl⟩ := hL.open_
  obtain ⟨r1, r2, r3⟩ := right_ok hR
  have h1 := fun wx (hx : Lies wx wx.heap.size t (.slice A t.l.length c)) => refRight_any t _ wx hx
  rw [hR] at h1
  have hL1 := hL.later (Nat.le_refl _) (.cells #[.int .i64 t.k, .int .u64 t.n, .string t.s, .slice A t.l.length c] 30)
  have h2 := fun wx (hx : Lies wx wx.heap.size t (.slice A t.l.length c)) => bytes_any t.size t _ wx (Nat.le_refl _) r1 r3 hx
  clear hR
  go_enter Try.func19, Try.ntmps19
  go_wp2_with (first
    | (go_at_call 24; refine (h1 _ hL1).mono ?_; rintro e w1 ⟨rfl, hb1⟩; obtain ⟨hc1, hf1⟩ := bcell hb1; have hz1 : w.heap.size < w1.heap.size := by have := hb1.size; simp at this; omega)
    | (go_at_call 38; refine (h2 _ ((hL1.below hb1).now hb1.size)).mono ?_; rintro e w2 ⟨rfl, hb2⟩))
  go_ret2
  exact ⟨rfl, (below_call (Below.refl _ _) hb1).trans (hb2.mono (by omega))⟩

set_option maxRecDepth 100000 in
theorem refEncode_bad (t : T) (v : Value) (w : World) (hL : Lies w w.heap.size t v) (hR : t.right ≠ 0) :
    Calls Try.prog 19 #[T.val t v] w fun e w' => e = .returned (.tuple #[.string ⟨#[]⟩, .int .i64 t.right]) ∧ Below w.heap.size w w' := by
  obtain ⟨A, c, xs, rfl, hk, hn, hs, hlc, hc, hr, hl⟩ := hL.open_
  have h1 := fun wx (hx : Lies wx wx.heap.size t (.slice A t.l.length c)) => refRight_any t _ wx hx
  have hL1 := hL.later (Nat.le_refl _) (.cells #[.int .i64 t.k, .int .u64 t.n, .string t.s, .slice A t.l.length c] 30)
  have d1 : (t.right != 0) = true := by simpa using hR
  clear hR
  go_enter Try.func19, Try.ntmps19
  go_wp2_with fail
  refine (h1 _ hL1).mono ?_
  rintro e w1 ⟨rfl, hb1⟩
  obtain ⟨hc1, hf1⟩ := bcell hb1
  have hz1 : w.heap.size < w1.heap.size := by have := hb1.size; simp at this; omega
  go_wp2_with fail
  refine (h1 _ ((hL1.below hb1).now hb1.size)).mono ?_
  rintro e w2 ⟨rfl, hb2⟩
  go_wp2_with fail
  go_ret2
  exact ⟨rfl, (below_call (Below.refl _ _) hb1).trans (hb2.mono (by omega))⟩

set_option maxRecDepth 100000 in
theorem law_bytes (t : T) (v : Value) (w : World) (hL : Lies w w.heap.size t v) :
    Calls Try.prog 5 #[T.val t v] w fun e w' => e = .returned (.bool true) ∧ Below w.heap.size w w' := by
  obtain ⟨A, c, xs, rfl, hk, hn, hs, hlc, hc, hr, hl⟩ := hL.open_
  have hL1 := hL.later (Nat.le_refl _) (.cells #[.int .i64 t.k, .int .u64 t.n, .string t.s, .slice A t.l.length c] 30)
  by_cases hR : t.right = 0
  · have h1 := fun wx (hx : Lies wx wx.heap.size t (.slice A t.l.length c)) => encode_ok t _ wx hx hR
    have h2 := fun wx (hx : Lies wx wx.heap.size t (.slice A t.l.length c)) => refEncode_ok t _ wx hx hR
    have h3 := fun wx (hx : Lies wx wx.heap.size t (.slice A t.l.length c)) => size_ok t _ wx hx hR
    clear hR
    go_enter Try.func5, Try.ntmps5
    go_wp2_with (first
      | (go_at_call 18; refine (h1 _ hL1).mono ?_; rintro e w1 ⟨rfl, hb1⟩; obtain ⟨hc1, hf1⟩ := bcell hb1; have hz1 : w.heap.size < w1.heap.size := by have := hb1.size; simp at this; omega)
      | (go_at_call 19; refine (h2 _ ((hL1.below hb1).now hb1.size)).mono ?_; rintro e w2 ⟨rfl, hb2⟩; obtain ⟨hc2, hf2⟩ := bcell hb2; have hz2 := hb2.size)
      | (go_at_call 20; refine (h3 _ ((((hL1.below hb1).now hb1.size).below hb2).now hb2.size)).mono ?_; rintro e w3 ⟨rfl, hb3⟩))
    go_ret
    exact ⟨rfl, (below_call (Below.refl _ _) hb1).trans ((hb2.mono (by omega)).trans (hb3.mono (by omega)))⟩
  · have h1 := fun wx (hx : Lies wx wx.heap.size t (.slice A t.l.length c)) => encode_bad t _ wx hx hR
    have h2 := fun wx (hx : Lies wx wx.heap.size t (.slice A t.l.length c)) => refEncode_bad t _ wx hx hR
    have h3 := fun wx (hx : Lies wx wx.heap.size t (.slice A t.l.length c)) => size_bad t _ wx hx hR
    clear hR
    go_enter Try.func5, Try.ntmps5
    go_wp2_with (first
      | (go_at_call 18; refine (h1 _ hL1).mono ?_; rintro e w1 ⟨rfl, hb1⟩; obtain ⟨hc1, hf1⟩ := bcell hb1; have hz1 : w.heap.size < w1.heap.size := by have := hb1.size; simp at this; omega)
      | (go_at_call 19; refine (h2 _ ((hL1.below hb1).now hb1.size)).mono ?_; rintro e w2 ⟨rfl, hb2⟩; obtain ⟨hc2, hf2⟩ := bcell hb2; have hz2 := hb2.size)
      | (go_at_call 20; refine (h3 _ ((((hL1.below hb1).now hb1.size).below hb2).now hb2.size)).mono ?_; rintro e w3 ⟨rfl, hb3⟩))
    go_ret
    exact ⟨rfl, (below_call (Below.refl _ _) hb1).trans ((hb2.mono (by omega)).trans (hb3.mono (by omega)))⟩
end Go.Proofs.Ytigebobjjpnnfaa.refEncs
