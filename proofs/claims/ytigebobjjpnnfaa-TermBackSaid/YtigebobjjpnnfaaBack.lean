/- Same; the walk of the law TermBack: it answers true and writes nothing that was there. -/
import Derived.Test.YtigebobjjpnnfaaSame
import Derived.Test.YtigebobjjpnnfaaCuts
namespace Go.Proofs.Ytigebobjjpnnfaa.backs
open Go.RowKit Go.Proofs.Ytigebobjjpnnfaa.base Go.Proofs.Ytigebobjjpnnfaa.tm Go.Proofs.Ytigebobjjpnnfaa.lies Go.Proofs.Ytigebobjjpnnfaa.rights Go.Proofs.Ytigebobjjpnnfaa.encs Go.Proofs.Ytigebobjjpnnfaa.refEncs Go.Proofs.Ytigebobjjpnnfaa.sames Go.Proofs.Ytigebobjjpnnfaa.cuts

set_option maxRecDepth 100000 in
theorem same_any (t u : T) (x y : Value) (w : World) (hL : Lies w w.heap.size t x) (hM : Lies w w.heap.size u y) (ht : t.right = 0) (hu : u.right = 0) :
    Calls Try.prog 25 #[T.val t x, T.val u y] w fun e w' => e = .returned (.bool (t.same u)) ∧ Below w.heap.size w w' := by
  obtain ⟨A, c, xs, rfl, _⟩ := hL.open_
  obtain ⟨A', c', xs', rfl, _⟩ := hM.open_
  have h1 := fun wx (hx : Lies wx wx.heap.size t (.slice A t.l.length c)) => adds.right_any t _ wx hx
  have h2 := fun wx (hx : Lies wx wx.heap.size u (.slice A' u.l.length c')) => adds.right_any u _ wx hx
  rw [ht] at h1
  rw [hu] at h2
  have h3 := fun wx (hx : Lies wx wx.heap.size t (.slice A t.l.length c)) (hy : Lies wx wx.heap.size u (.slice A' u.l.length c')) => alike_any t.size t u _ _ wx (Nat.le_refl _) hx hy
  have hL1 := (hL.later (Nat.le_refl _) (.cells #[.int .i64 t.k, .int .u64 t.n, .string t.s, .slice A t.l.length c] 30)).later (Nat.le_refl _) (.cells #[.int .i64 u.k, .int .u64 u.n, .string u.s, .slice A' u.l.length c'] 30)
  have hM1 := (hM.later (Nat.le_refl _) (.cells #[.int .i64 t.k, .int .u64 t.n, .string t.s, .slice A t.l.length c] 30)).later (Nat.le_refl _) (.cells #[.int .i64 u.k, .int .u64 u.n, .string u.s, .slice A' u.l.length c'] 30)
  clear ht hu
  go_enter Try.func25, Try.ntmps25
  go_wp2_with fail
  refine (h1 _ hL1).mono ?_
  rintro e w1 ⟨rfl, hb1⟩
  obtain ⟨hc1, hf1⟩ := bcell hb1
  have hz1 : w.heap.size + 1 < w1.heap.size := by have := hb1.size; simp at this; omega
  have hz1' : w.heap.size < w1.heap.size := by omega
  go_wp2_with fail
  refine (h2 _ ((hM1.below hb1).now hb1.size)).mono ?_
  rintro e w2 ⟨rfl, hb2⟩
  have hB2 := hb1.trans (hb2.mono hb1.size)
  clear hc1 hf1
  obtain ⟨hc2, hf2⟩ := bcell hB2
  go_wp2_with fail
  refine (h3 _ ((hL1.below hB2).now hB2.size) ((hM1.below hB2).now hB2.size)).mono ?_
  rintro e w3 ⟨rfl, hb3⟩
  go_wp2_with fail
  go_ret
  exact ⟨rfl, below_two' (Below.refl _ _) (hB2.trans (hb3.mono hB2.size))⟩

/-- the bytes that Encode answers -/
def encS (t : T) : ByteArray := if t.right = 0 then ⟨t.enc.toArray⟩ else ⟨#[]⟩
theorem encode_gen (t : T) (v : Value) (w : World) (hL : Lies w w.heap.size t v) :
    Calls Try.prog 18 #[T.val t v] w fun e w' => e = .returned (.tuple #[.string (encS t), .int .i64 t.right]) ∧ Below w.heap.size w w' := by
  unfold encS
  by_cases h : t.right = 0
  · rw [if_pos h, h]; exact encode_ok t v w hL h
  · rw [if_neg h]; exact encode_bad t v w hL h

theorem cut_ne {t u : T} (h : ∀ x : List UInt8, t.enc ++ x = u.enc → t = u ∧ x = []) (hne : t ≠ u) : ¬ ((⟨u.enc.toArray⟩ : ByteArray).extract 0 t.enc.length).toList = t.enc := by
  intro e
  rw [tm.toList_eq, numLaws.cut_list] at e
  have e' : u.enc.take t.enc.length = t.enc := e
  exact hne (h (u.enc.drop t.enc.length) (by have h2 := List.take_append_drop t.enc.length u.enc; rwa [e'] at h2)).1
theorem enc_ne {t u : T} (h : ∀ x : List UInt8, t.enc ++ x = u.enc → t = u ∧ x = []) (hne : t ≠ u) : (t.enc == u.enc) = false := by
  rw [beq_eq_false_iff_ne]
  intro e
  exact hne (h [] (by rw [List.append_nil]; exact e)).1

set_option maxRecDepth 100000 in
set_option maxHeartbeats 400000 in
theorem law_back (t u : T) (x y : Value) (w : World) (hL : Lies w w.heap.size t x) (hM : Lies w w.heap.size u y) :
    Calls Try.prog 7 #[T.val t x, T.val u y] w fun e w' => e = .returned (.bool true) ∧ Below w.heap.size w w' := by
  have hwt := Lies.word _ _ hL
  have hwu := Lies.word _ _ hM
  obtain ⟨A, c, xs, rfl, _⟩ := hL.open_
  obtain ⟨A', c', xs', rfl, _⟩ := hM.open_
  have hL1 := (hL.later (Nat.le_refl _) (.cells #[.int .i64 t.k, .int .u64 t.n, .string t.s, .slice A t.l.length c] 30)).later (Nat.le_refl _) (.cells #[.int .i64 u.k, .int .u64 u.n, .string u.s, .slice A' u.l.length c'] 30)
  have hM1 := (hM.later (Nat.le_refl _) (.cells #[.int .i64 t.k, .int .u64 t.n, .string t.s, .slice A t.l.length c] 30)).later (Nat.le_refl _) (.cells #[.int .i64 u.k, .int .u64 u.n, .string u.s, .slice A' u.l.length c'] 30)
  have h1 := fun wx (hx : Lies wx wx.heap.size t (.slice A t.l.length c)) => encode_gen t _ wx hx
  have h2 := fun wx (hx : Lies wx wx.heap.size u (.slice A' u.l.length c')) => encode_gen u _ wx hx
  have h3 := fun wx (hx : Lies wx wx.heap.size t (.slice A t.l.length c)) => refRight_any t _ wx hx
  have h4 := fun wx (hx : Lies wx wx.heap.size u (.slice A' u.l.length c')) => refRight_any u _ wx hx
  by_cases hR : t.right = 0
  · by_cases hS : u.right = 0
    · have h1 := fun wx (hx : Lies wx wx.heap.size t (.slice A t.l.length c)) => encode_ok t _ wx hx hR
      have h2 := fun wx (hx : Lies wx wx.heap.size u (.slice A' u.l.length c')) => encode_ok u _ wx hx hS
      have h6 := fun wx (v : Value) (hx : Lies wx wx.heap.size t v) (hy : Lies wx wx.heap.size t (.slice A t.l.length c)) => same_any t t _ _ wx hx hy hR hR
      have h7 := fun wx (hx : Lies wx wx.heap.size t (.slice A t.l.length c)) (hy : Lies wx wx.heap.size u (.slice A' u.l.length c')) => same_any t u _ _ wx hx hy hR hS
      have hl1 := enc_size hR hwt
      have hl2 := enc_size hS hwu
      have h5 := decode_ok (s := ⟨t.enc.toArray⟩) (t := t) (by have := decode_enc hR hwt []; simpa using this) (by show t.enc.length ≤ maxLen; unfold maxLen; omega)
      rw [same_refl] at h6
      rw [hR] at h3
      rw [hS] at h4
      have HI := lay (fun x => enc_inj (x := x) hR hS hwt hwu)
      have HJ := lay (fun x => enc_inj (x := x) hS hR hwu hwt)
      clear hR hS
      cases hq : t.same u with
      | true =>
        rw [hq] at h7
        have he : (t.enc == u.enc) = true := by rw [same_of t u hq]; exact beq_self_eq_true _
        clear hq
        go_enter Try.func7, Try.ntmps7
        go_wp2_with fail
        refine (h1 _ hL1).mono ?_
        rintro e w1 ⟨rfl, hb1⟩
        obtain ⟨hc1, hf1⟩ := bcell hb1
        have hz1 : w.heap.size + 1 < w1.heap.size := by have := hb1.size; simp at this; omega
        have hz1' : w.heap.size < w1.heap.size := by omega
        go_wp2_with fail
        refine (h2 _ ((hM1.below hb1).now hb1.size)).mono ?_
        rintro e w2 ⟨rfl, hb2⟩
        have hB2 := hb1.trans (hb2.mono hb1.size)
        clear hc1 hf1
        obtain ⟨hc2, hf2⟩ := bcell hB2
        go_wp2_with fail
        refine (h3 _ ((hL1.below hB2).now hB2.size)).mono ?_
        rintro e w3 ⟨rfl, hb3⟩
        have hB3 := hB2.trans (hb3.mono hB2.size)
        clear hc2 hf2
        obtain ⟨hc3, hf3⟩ := bcell hB3
        go_wp2_with fail
        refine (h4 _ ((hM1.below hB3).now hB3.size)).mono ?_
        rintro e w4 ⟨rfl, hb4⟩
        have hB4 := hB3.trans (hb4.mono hB3.size)
        clear hc3 hf3
        obtain ⟨hc4, hf4⟩ := bcell hB4
        go_wp2_with fail
        refine (h5 _).mono ?_
        rintro e w5 ⟨A5, c5, rfl, hL5, hb5⟩
        have hB5 := (hB4.trans (hb5.mono hB4.size)).alloc (Nat.le_trans hB4.size hb5.size) (.cells #[.int .i64 t.k, .int .u64 t.n, .string t.s, .slice A5 t.l.length c5] 30)
        clear hc4 hf4
        obtain ⟨hc5, hf5⟩ := bcell hB5
        go_wp2_with fail
        refine (h6 _ _ (hL5.later (Nat.le_refl _) _) ((hL1.below hB5).now hB5.size)).mono ?_
        rintro e w6 ⟨rfl, hb6⟩
        have hB6 := hB5.trans (hb6.mono hB5.size)
        clear hc5 hf5
        obtain ⟨hc6, hf6⟩ := bcell hB6
        go_wp2_with fail
        refine (h7 _ ((hL1.below hB6).now hB6.size) ((hM1.below hB6).now hB6.size)).mono ?_
        rintro e w7 ⟨rfl, hb7⟩
        have hB7 := hB6.trans (hb7.mono hB6.size)
        go_wp2_with fail
        go_ret
        exact ⟨rfl, below_two' (Below.refl _ _) hB7⟩
      | false =>
        rw [hq] at h7
        have hne : t ≠ u := fun e => by rw [e, same_refl] at hq; cases hq
        have he : (t.enc == u.enc) = false := enc_ne HI.out hne
        clear hq
        go_enter Try.func7, Try.ntmps7
        go_wp2_with fail
        refine (h1 _ hL1).mono ?_
        rintro e w1 ⟨rfl, hb1⟩
        obtain ⟨hc1, hf1⟩ := bcell hb1
        have hz1 : w.heap.size + 1 < w1.heap.size := by have := hb1.size; simp at this; omega
        have hz1' : w.heap.size < w1.heap.size := by omega
        go_wp2_with fail
        refine (h2 _ ((hM1.below hb1).now hb1.size)).mono ?_
        rintro e w2 ⟨rfl, hb2⟩
        have hB2 := hb1.trans (hb2.mono hb1.size)
        clear hc1 hf1
        obtain ⟨hc2, hf2⟩ := bcell hB2
        go_wp2_with fail
        refine (h3 _ ((hL1.below hB2).now hB2.size)).mono ?_
        rintro e w3 ⟨rfl, hb3⟩
        have hB3 := hB2.trans (hb3.mono hB2.size)
        clear hc2 hf2
        obtain ⟨hc3, hf3⟩ := bcell hB3
        go_wp2_with fail
        refine (h4 _ ((hM1.below hB3).now hB3.size)).mono ?_
        rintro e w4 ⟨rfl, hb4⟩
        have hB4 := hB3.trans (hb4.mono hB3.size)
        clear hc3 hf3
        obtain ⟨hc4, hf4⟩ := bcell hB4
        go_wp2_with fail
        refine (h5 _).mono ?_
        rintro e w5 ⟨A5, c5, rfl, hL5, hb5⟩
        have hB5 := (hB4.trans (hb5.mono hB4.size)).alloc (Nat.le_trans hB4.size hb5.size) (.cells #[.int .i64 t.k, .int .u64 t.n, .string t.s, .slice A5 t.l.length c5] 30)
        clear hc4 hf4
        obtain ⟨hc5, hf5⟩ := bcell hB5
        go_wp2_with fail
        refine (h6 _ _ (hL5.later (Nat.le_refl _) _) ((hL1.below hB5).now hB5.size)).mono ?_
        rintro e w6 ⟨rfl, hb6⟩
        have hB6 := hB5.trans (hb6.mono hB5.size)
        clear hc5 hf5
        obtain ⟨hc6, hf6⟩ := bcell hB6
        go_wp2_with fail
        refine (h7 _ ((hL1.below hB6).now hB6.size) ((hM1.below hB6).now hB6.size)).mono ?_
        rintro e w7 ⟨rfl, hb7⟩
        have hB7 := hB6.trans (hb7.mono hB6.size)
        go_wp2_with fail
        · have hx : ((⟨t.enc.toArray⟩ : ByteArray).extract 0 u.enc.length).toList = u.enc := by assumption
          exact absurd hx (cut_ne HJ.out (Ne.symm hne))
        · go_ret
          exact ⟨rfl, below_two' (Below.refl _ _) hB7⟩
        · go_ret
          have hx := cut_ne HI.out hne
          refine ⟨ret_bool ?_, below_two' (Below.refl _ _) hB7⟩
          simpa using hx
    · have d1 : (u.right != 0) = true := by simpa using hS
      rw [hR] at h1 h3
      clear hR hS
      go_enter Try.func7, Try.ntmps7
      go_wp2_with fail
      refine (h1 _ hL1).mono ?_
      rintro e w1 ⟨rfl, hb1⟩
      obtain ⟨hc1, hf1⟩ := bcell hb1
      have hz1 : w.heap.size + 1 < w1.heap.size := by have := hb1.size; simp at this; omega
      have hz1' : w.heap.size < w1.heap.size := by omega
      go_wp2_with fail
      refine (h2 _ ((hM1.below hb1).now hb1.size)).mono ?_
      rintro e w2 ⟨rfl, hb2⟩
      have hB2 := hb1.trans (hb2.mono hb1.size)
      clear hc1 hf1
      obtain ⟨hc2, hf2⟩ := bcell hB2
      go_wp2_with fail
      refine (h3 _ ((hL1.below hB2).now hB2.size)).mono ?_
      rintro e w3 ⟨rfl, hb3⟩
      have hB3 := hB2.trans (hb3.mono hB2.size)
      clear hc2 hf2
      obtain ⟨hc3, hf3⟩ := bcell hB3
      go_wp2_with fail
      refine (h4 _ ((hM1.below hB3).now hB3.size)).mono ?_
      rintro e w4 ⟨rfl, hb4⟩
      have hB4 := hB3.trans (hb4.mono hB3.size)
      go_wp2_with fail
      go_ret
      exact ⟨rfl, below_two' (Below.refl _ _) hB4⟩
  · have d1 : (t.right != 0) = true := by simpa using hR
    clear hR
    go_enter Try.func7, Try.ntmps7
    go_wp2_with fail
    refine (h1 _ hL1).mono ?_
    rintro e w1 ⟨rfl, hb1⟩
    obtain ⟨hc1, hf1⟩ := bcell hb1
    have hz1 : w.heap.size + 1 < w1.heap.size := by have := hb1.size; simp at this; omega
    have hz1' : w.heap.size < w1.heap.size := by omega
    go_wp2_with fail
    refine (h2 _ ((hM1.below hb1).now hb1.size)).mono ?_
    rintro e w2 ⟨rfl, hb2⟩
    have hB2 := hb1.trans (hb2.mono hb1.size)
    clear hc1 hf1
    obtain ⟨hc2, hf2⟩ := bcell hB2
    go_wp2_with fail
    refine (h3 _ ((hL1.below hB2).now hB2.size)).mono ?_
    rintro e w3 ⟨rfl, hb3⟩
    have hB3 := hB2.trans (hb3.mono hB2.size)
    clear hc2 hf2
    obtain ⟨hc3, hf3⟩ := bcell hB3
    go_wp2_with fail
    refine (h4 _ ((hM1.below hB3).now hB3.size)).mono ?_
    rintro e w4 ⟨rfl, hb4⟩
    have hB4 := hB3.trans (hb4.mono hB3.size)
    go_wp2_with fail
    go_ret
    exact ⟨rfl, below_two' (Below.refl _ _) hB4⟩
end Go.Proofs.Ytigebobjjpnnfaa.backs
