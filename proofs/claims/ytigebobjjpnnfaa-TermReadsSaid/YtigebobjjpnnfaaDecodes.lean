/- The walks of the laws TermDecodes and TermReads: they answer true and write nothing that was there. -/
import Derived.Test.YtigebobjjpnnfaaRefAll
import Derived.Test.YtigebobjjpnnfaaCuts
import Derived.Test.YtigebobjjpnnfaaMakes
import Derived.Test.YtigebobjjpnnfaaTmBack
namespace Go.Proofs.Ytigebobjjpnnfaa.decs
open Go.RowKit Go.Proofs.Ytigebobjjpnnfaa.base Go.Proofs.Ytigebobjjpnnfaa.tm Go.Proofs.Ytigebobjjpnnfaa.lies Go.Proofs.Ytigebobjjpnnfaa.rights Go.Proofs.Ytigebobjjpnnfaa.encs Go.Proofs.Ytigebobjjpnnfaa.refEncs Go.Proofs.Ytigebobjjpnnfaa.cuts Go.Proofs.Ytigebobjjpnnfaa.refReads

theorem refDecode_bad {s : ByteArray} {err : Int} (h : tm.decode s.data.toList = .bad err) (hs : s.size ≤ maxLen) (w : World) :
    Calls Try.prog 22 #[.string s] w fun e w' => e = .returned (.tuple #[.agg #[.int .i64 0, .int .u64 0, .string ⟨#[]⟩, .slice none 0 0], .int .i64 err]) ∧ Below w.heap.size w w' := by
  have := refDecode_any s w hs
  rw [h] at this
  exact this.mono fun e w' ⟨hb, _, he⟩ => ⟨he, hb⟩
theorem refDecode_ok {s : ByteArray} {t : T} (h : tm.decode s.data.toList = .ok t) (hs : s.size ≤ maxLen) (w : World) :
    Calls Try.prog 22 #[.string s] w fun e w' => ∃ (A : Option Addr) (c : Nat), e = .returned (.tuple #[.agg #[.int .i64 t.k, .int .u64 t.n, .string t.s, .slice A t.l.length c], .int .i64 0]) ∧ Lies w' w'.heap.size t (.slice A t.l.length c) ∧ Below w.heap.size w w' := by
  have := refDecode_any s w hs
  rw [h] at this
  exact this.mono fun e w' ⟨hb, A, c, he, hL⟩ => ⟨A, c, he, hL, hb⟩

set_option maxRecDepth 100000 in
set_option maxHeartbeats 400000 in
theorem law_decodes (s : ByteArray) (w : World) (hs : s.size ≤ maxLen) :
    Calls Try.prog 6 #[.string s] w fun e w' => e = .returned (.bool true) ∧ Below w.heap.size w w' := by
  cases hq : tm.decode s.data.toList with
  | bad err =>
    have h1 := decode_bad hq hs
    have h2 := refDecode_bad hq hs
    have h3 := fun wx : World => likes.like_any 1 (.mk 0 0 ⟨#[]⟩ []) (.slice none 0 0) (.slice none 0 0) wx (by decide) (makes.lies_bare wx wx.heap.size 0 0 ⟨#[]⟩ (by omega) (by omega) (Nat.zero_le _)) (makes.lies_bare wx wx.heap.size 0 0 ⟨#[]⟩ (by omega) (by omega) (Nat.zero_le _))
    clear hq
    go_enter Try.func6, Try.ntmps6
    go_wp2_with fail
    refine (h1 _).mono ?_
    rintro e w1 ⟨rfl, hb1⟩
    go_wp2_with fail
    refine (h2 _).mono ?_
    rintro e w2 ⟨rfl, hb2⟩
    have hz1 : w1.heap.size < w2.heap.size := by have := hb2.size; simp at this; omega
    have hB1 := (Blk.new w1 30 #[.int .i64 0, .int .u64 0, .string ⟨#[]⟩, .slice none 0 0]).below hb2 (by simp)
    have q0 := hB1.cell 0
    have q1 := hB1.cell 1
    have q2 := hB1.cell 2
    have q3 := hB1.cell 3
    simp at q0 q1 q2 q3
    go_wp2_with fail
    refine (h3 _).mono ?_
    rintro e w3 ⟨rfl, hb3⟩
    go_wp2_with fail
    go_ret
    exact ⟨rfl, below_call (below_call hb1 hb2) hb3⟩
  | ok t =>
    have h1 := decode_ok hq hs
    have h2 := refDecode_ok hq hs
    clear hq
    go_enter Try.func6, Try.ntmps6
    go_wp2_with fail
    refine (h1 _).mono ?_
    rintro e w1 ⟨A1, c1, rfl, hL1, hb1⟩
    go_wp2_with fail
    refine (h2 _).mono ?_
    rintro e w2 ⟨A2, c2, rfl, hL2, hb2⟩
    have hz1 : w1.heap.size < w2.heap.size := by have := hb2.size; simp at this; omega
    have hB1 := (Blk.new w1 30 #[.int .i64 t.k, .int .u64 t.n, .string t.s, .slice A1 t.l.length c1]).below hb2 (by simp)
    have q0 := hB1.cell 0
    have q1 := hB1.cell 1
    have q2 := hB1.cell 2
    have q3 := hB1.cell 3
    simp at q0 q1 q2 q3
    have hL1' := ((hL1.later (Nat.le_refl _) (.cells #[.int .i64 t.k, .int .u64 t.n, .string t.s, .slice A1 t.l.length c1] 30)).below hb2).now hb2.size
    have h3 := likes.like_any t.size t _ _ _ (Nat.le_refl _) (hL1'.later (Nat.le_refl _) (.cells #[.int .i64 t.k, .int .u64 t.n, .string t.s, .slice A2 t.l.length c2] 30)) (hL2.later (Nat.le_refl _) (.cells #[.int .i64 t.k, .int .u64 t.n, .string t.s, .slice A2 t.l.length c2] 30))
    go_wp2_with fail
    refine h3.mono ?_
    rintro e w3 ⟨rfl, hb3⟩
    go_wp2_with fail
    go_ret
    exact ⟨rfl, below_call (below_call hb1 hb2) hb3⟩

set_option maxRecDepth 100000 in
set_option maxHeartbeats 400000 in
theorem law_reads (s : ByteArray) (w : World) (hs : s.size ≤ maxLen) :
    Calls Try.prog 8 #[.string s] w fun e w' => e = .returned (.bool true) ∧ Below w.heap.size w w' := by
  cases hq : tm.decode s.data.toList with
  | bad err =>
    have h1 : ∀ w, Calls Try.prog 21 #[.string s] w fun e w' => err ≠ 0 ∧ e = .returned (.tuple #[.agg #[.int .i64 0, .int .u64 0, .string ⟨#[]⟩, .slice none 0 0], .int .i64 err]) ∧ Below w.heap.size w w' := fun w => by
      have := reads.decode_any s w hs
      rw [hq] at this
      exact this.mono fun e w' ⟨hb, hn, he⟩ => ⟨hn, he, hb⟩
    have h2 := fun w => refDecode_bad hq hs w
    clear hq
    go_enter Try.func8, Try.ntmps8
    go_wp2_with fail
    refine (h2 _).mono ?_
    rintro e w1 ⟨rfl, hb1⟩
    go_wp2_with fail
    refine (h1 _).mono ?_
    rintro e w2 ⟨hne, rfl, hb2⟩
    have d1 : (err != 0) = true := by simpa using hne
    clear hne
    go_wp2_with fail
    go_ret
    exact ⟨rfl, (below_call hb1 hb2).alloc (below_call hb1 hb2).size _⟩
  | ok t =>
    have h1 := decode_ok hq hs
    have h2 := refDecode_ok hq hs
    obtain ⟨hst, hR, hw⟩ := decode_back hq
    have e0 : s.toList = t.enc := by rw [tm.toList_eq, hst]
    clear hq hst
    go_enter Try.func8, Try.ntmps8
    go_wp2_with fail
    refine (h2 _).mono ?_
    rintro e w1 ⟨A1, c1, rfl, hL1, hb1⟩
    go_wp2_with fail
    refine (h1 _).mono ?_
    rintro e w2 ⟨A2, c2, rfl, hL2, hb2⟩
    have hL3 := hL2.later (Nat.le_refl _) (.cells #[.int .i64 t.k, .int .u64 t.n, .string t.s, .slice A2 t.l.length c2] 30)
    have h3 := encode_ok t _ _ hL3 hR
    have h4 := fun wx (hx : Lies wx wx.heap.size t (.slice A2 t.l.length c2)) => adds.right_any t _ wx hx
    rw [hR] at h4
    clear hR
    go_wp2_with fail
    refine h3.mono ?_
    rintro e w3 ⟨rfl, hb3⟩
    obtain ⟨hc3, hf3⟩ := bcell hb3
    go_wp2_with fail
    refine (h4 _ ((hL3.below hb3).now hb3.size)).mono ?_
    rintro e w4 ⟨rfl, hb4⟩
    go_wp2_with fail
    go_ret
    exact ⟨rfl, (below_call (below_call hb1 hb2) hb3).trans (hb4.mono (below_call (below_call hb1 hb2) hb3).size)⟩
end Go.Proofs.Ytigebobjjpnnfaa.decs
