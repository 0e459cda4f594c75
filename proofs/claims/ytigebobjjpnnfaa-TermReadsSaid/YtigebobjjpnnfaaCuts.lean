/- The walk of the law TermCuts: it answers true and writes nothing that was there. -/
import Derived.Test.YtigebobjjpnnfaaDecode
import Derived.Test.YtigebobjjpnnfaaTmShort
import Derived.Test.YtigebobjjpnnfaaBytesLaw
namespace Go.Proofs.Ytigebobjjpnnfaa.cuts
open Go.RowKit Go.Proofs.Ytigebobjjpnnfaa.base Go.Proofs.Ytigebobjjpnnfaa.tm Go.Proofs.Ytigebobjjpnnfaa.lies Go.Proofs.Ytigebobjjpnnfaa.rights Go.Proofs.Ytigebobjjpnnfaa.encs Go.Proofs.Ytigebobjjpnnfaa.refEncs

theorem decode_bad {s : ByteArray} {err : Int} (h : tm.decode s.data.toList = .bad err) (hs : s.size ≤ maxLen) (w : World) :
    Calls Try.prog 21 #[.string s] w fun e w' => e = .returned (.tuple #[.agg #[.int .i64 0, .int .u64 0, .string ⟨#[]⟩, .slice none 0 0], .int .i64 err]) ∧ Below w.heap.size w w' := by
  have := reads.decode_any s w hs
  rw [h] at this
  exact this.mono fun e w' ⟨hb, _, he⟩ => ⟨he, hb⟩
theorem decode_ok {s : ByteArray} {t : T} (h : tm.decode s.data.toList = .ok t) (hs : s.size ≤ maxLen) (w : World) :
    Calls Try.prog 21 #[.string s] w fun e w' => ∃ (A : Option Addr) (c : Nat), e = .returned (.tuple #[.agg #[.int .i64 t.k, .int .u64 t.n, .string t.s, .slice A t.l.length c], .int .i64 0]) ∧ Lies w' w'.heap.size t (.slice A t.l.length c) ∧ Below w.heap.size w w' := by
  have := reads.decode_any s w hs
  rw [h] at this
  exact this.mono fun e w' ⟨hb, A, c, he, hL⟩ => ⟨A, c, he, hL, hb⟩

theorem enc_size {t : T} (hR : t.right = 0) (hw : t.word) : t.enc.length ≤ 16044000 := by
  obtain ⟨h1, _, h3⟩ := right_ok hR
  have := enc_len t h3 hw
  omega

set_option maxRecDepth 100000 in
set_option maxHeartbeats 400000 in
theorem law_cuts (t : T) (v : Value) (a : Int) (more : ByteArray) (w : World) (hL : Lies w w.heap.size t v) (ha : -9223372036854775808 ≤ a ∧ a ≤ 9223372036854775807) (hm : more.size ≤ 140737488351232) :
    Calls Try.prog 9 #[T.val t v, .int .i64 a, .string more] w fun e w' => e = .returned (.bool true) ∧ Below w.heap.size w w' := by
  obtain ⟨A, c, xs, rfl, hk, hn, hs, hlc, hc, hr, hl⟩ := hL.open_
  have hL1 := hL.later (Nat.le_refl _) (.cells #[.int .i64 t.k, .int .u64 t.n, .string t.s, .slice A t.l.length c] 30)
  have hw := Lies.word _ _ hL
  have h2 := fun wx (hx : Lies wx wx.heap.size t (.slice A t.l.length c)) => refRight_any t _ wx hx
  by_cases hR : t.right = 0
  · have h1 := encode_ok t _ _ hL1 hR
    rw [hR] at h2
    have hlen := enc_size hR hw
    have hdm : tm.decode ((⟨t.enc.toArray⟩ : ByteArray) ++ more).data.toList = if more.data.toList = [] then .ok t else .bad 24 := by
      have := decode_enc hR hw more.data.toList
      simpa using this
    have hsm : ((⟨t.enc.toArray⟩ : ByteArray) ++ more).size ≤ maxLen := by rw [ByteArray.size_append]; show t.enc.length + more.size ≤ maxLen; unfold maxLen; omega
    have hcut : ∀ k : Nat, k < t.enc.length → ∀ wx, Calls Try.prog 21 #[.string ((⟨t.enc.toArray⟩ : ByteArray).extract 0 k)] wx fun e w' => e = .returned (.tuple #[.agg #[.int .i64 0, .int .u64 0, .string ⟨#[]⟩, .slice none 0 0], .int .i64 20]) ∧ Below wx.heap.size wx w' := fun k hk => decode_bad (by
      have := decode_short hR hw hk
      simpa using this) (by have := numLaws.cut_size (⟨t.enc.toArray⟩ : ByteArray) k (by show k ≤ t.enc.length; omega); unfold maxLen; omega)
    have HC := Lib.hid hcut
    clear hcut hR
    by_cases hmore : more.data.toList = []
    · rw [if_pos hmore] at hdm
      have hd := decode_ok hdm hsm
      have e0 : more.toList = [] := by rw [tm.toList_eq]; exact hmore
      clear hdm hmore hsm
      by_cases hat : 0 ≤ a ∧ a < t.enc.length
      · obtain ⟨k, rfl⟩ := Int.eq_ofNat_of_zero_le hat.1
        have hk1 : k < t.enc.length := by omega
        have HC2 := HC.out k hk1
        clear hat
        go_enter Try.func9, Try.ntmps9
        go_wp2_with fail
        refine h1.mono ?_
        rintro e w1 ⟨rfl, hb1⟩
        obtain ⟨hc1, hf1⟩ := bcell hb1
        have hz1 : w.heap.size < w1.heap.size := by have := hb1.size; simp at this; omega
        go_wp2_with fail
        refine (h2 _ ((hL1.below hb1).now hb1.size)).mono ?_
        rintro e w2 ⟨rfl, hb2⟩
        have hB2 := (below_call (Below.refl _ _) hb1).trans (hb2.mono (by omega))
        go_wp2_with fail
        refine (HC2 _).mono ?_
        rintro e w3 ⟨rfl, hb3⟩
        have hB3 := hB2.trans (hb3.mono hB2.size)
        go_wp2_with fail
        refine (hd _).mono ?_
        rintro e w4 ⟨A4, c4, rfl, -, hb4⟩
        have hB4 := below_call hB3 hb4
        go_wp2_with fail
        go_ret
        exact ⟨rfl, hB4.alloc hB4.size _⟩
      · by_cases ha0 : 0 ≤ a
        · have ha1 : (t.enc.length : Int) ≤ a := by omega
          clear hat
          go_enter Try.func9, Try.ntmps9
          go_wp2_with fail
          refine h1.mono ?_
          rintro e w1 ⟨rfl, hb1⟩
          obtain ⟨hc1, hf1⟩ := bcell hb1
          have hz1 : w.heap.size < w1.heap.size := by have := hb1.size; simp at this; omega
          go_wp2_with fail
          refine (h2 _ ((hL1.below hb1).now hb1.size)).mono ?_
          rintro e w2 ⟨rfl, hb2⟩
          have hB2 := (below_call (Below.refl _ _) hb1).trans (hb2.mono (by omega))
          go_wp2_with fail
          refine (hd _).mono ?_
          rintro e w4 ⟨A4, c4, rfl, -, hb4⟩
          have hB4 := hB2.trans (hb4.mono hB2.size)
          go_wp2_with fail
          go_ret
          exact ⟨rfl, hB4.alloc hB4.size _⟩
        · clear hat
          go_enter Try.func9, Try.ntmps9
          go_wp2_with fail
          refine h1.mono ?_
          rintro e w1 ⟨rfl, hb1⟩
          obtain ⟨hc1, hf1⟩ := bcell hb1
          have hz1 : w.heap.size < w1.heap.size := by have := hb1.size; simp at this; omega
          go_wp2_with fail
          refine (h2 _ ((hL1.below hb1).now hb1.size)).mono ?_
          rintro e w2 ⟨rfl, hb2⟩
          have hB2 := (below_call (Below.refl _ _) hb1).trans (hb2.mono (by omega))
          go_wp2_with fail
          refine (hd _).mono ?_
          rintro e w4 ⟨A4, c4, rfl, -, hb4⟩
          have hB4 := hB2.trans (hb4.mono hB2.size)
          go_wp2_with fail
          go_ret
          exact ⟨rfl, hB4.alloc hB4.size _⟩
    · rw [if_neg hmore] at hdm
      have hd := decode_bad hdm hsm
      have e0 : more.toList.isEmpty = false := by rw [tm.toList_eq]; simpa using hmore
      clear hdm hmore hsm
      by_cases hat : 0 ≤ a ∧ a < t.enc.length
      · obtain ⟨k, rfl⟩ := Int.eq_ofNat_of_zero_le hat.1
        have hk1 : k < t.enc.length := by omega
        have HC2 := HC.out k hk1
        clear hat
        go_enter Try.func9, Try.ntmps9
        go_wp2_with fail
        refine h1.mono ?_
        rintro e w1 ⟨rfl, hb1⟩
        obtain ⟨hc1, hf1⟩ := bcell hb1
        have hz1 : w.heap.size < w1.heap.size := by have := hb1.size; simp at this; omega
        go_wp2_with fail
        refine (h2 _ ((hL1.below hb1).now hb1.size)).mono ?_
        rintro e w2 ⟨rfl, hb2⟩
        have hB2 := (below_call (Below.refl _ _) hb1).trans (hb2.mono (by omega))
        go_wp2_with fail
        refine (HC2 _).mono ?_
        rintro e w3 ⟨rfl, hb3⟩
        have hB3 := hB2.trans (hb3.mono hB2.size)
        go_wp2_with fail
        refine (hd _).mono ?_
        rintro e w4 ⟨rfl, hb4⟩
        have hB4 := below_call hB3 hb4
        go_wp2_with fail
        go_ret
        exact ⟨rfl, hB4.alloc hB4.size _⟩
      · by_cases ha0 : 0 ≤ a
        · have ha1 : (t.enc.length : Int) ≤ a := by omega
          clear hat
          go_enter Try.func9, Try.ntmps9
          go_wp2_with fail
          refine h1.mono ?_
          rintro e w1 ⟨rfl, hb1⟩
          obtain ⟨hc1, hf1⟩ := bcell hb1
          have hz1 : w.heap.size < w1.heap.size := by have := hb1.size; simp at this; omega
          go_wp2_with fail
          refine (h2 _ ((hL1.below hb1).now hb1.size)).mono ?_
          rintro e w2 ⟨rfl, hb2⟩
          have hB2 := (below_call (Below.refl _ _) hb1).trans (hb2.mono (by omega))
          go_wp2_with fail
          refine (hd _).mono ?_
          rintro e w4 ⟨rfl, hb4⟩
          have hB4 := hB2.trans (hb4.mono hB2.size)
          go_wp2_with fail
          go_ret
          exact ⟨rfl, hB4.alloc hB4.size _⟩
        · clear hat
          go_enter Try.func9, Try.ntmps9
          go_wp2_with fail
          refine h1.mono ?_
          rintro e w1 ⟨rfl, hb1⟩
          obtain ⟨hc1, hf1⟩ := bcell hb1
          have hz1 : w.heap.size < w1.heap.size := by have := hb1.size; simp at this; omega
          go_wp2_with fail
          refine (h2 _ ((hL1.below hb1).now hb1.size)).mono ?_
          rintro e w2 ⟨rfl, hb2⟩
          have hB2 := (below_call (Below.refl _ _) hb1).trans (hb2.mono (by omega))
          go_wp2_with fail
          refine (hd _).mono ?_
          rintro e w4 ⟨rfl, hb4⟩
          have hB4 := hB2.trans (hb4.mono hB2.size)
          go_wp2_with fail
          go_ret
          exact ⟨rfl, hB4.alloc hB4.size _⟩
  · have h1 := encode_bad t _ _ hL1 hR
    have d1 : (t.right != 0) = true := by simpa using hR
    clear hR
    go_enter Try.func9, Try.ntmps9
    go_wp2_with fail
    refine h1.mono ?_
    rintro e w1 ⟨rfl, hb1⟩
    obtain ⟨hc1, hf1⟩ := bcell hb1
    have hz1 : w.heap.size < w1.heap.size := by have := hb1.size; simp at this; omega
    go_wp2_with fail
    refine (h2 _ ((hL1.below hb1).now hb1.size)).mono ?_
    rintro e w2 ⟨rfl, hb2⟩
    have hB2 := (below_call (Below.refl _ _) hb1).trans (hb2.mono (by omega))
    go_wp2_with fail
    go_ret
    exact ⟨rfl, hB2⟩
end Go.Proofs.Ytigebobjjpnnfaa.cuts
