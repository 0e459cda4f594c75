/- Plain laws of reading: a right term is read back; what is read is right and is written just so; a beginning is too short. -/
import Derived.Test.YtjlglfjikfpboaaTermB
import Derived.Test.YtjlglfjikfpboaaTermC
import Derived.Test.YtjlglfjikfpboaaTermD


namespace Go.Proofs.Ytjlglfjikfpboaa.tm
set_option linter.unusedVariables false
set_option linter.unusedSimpArgs false
open Go.Proofs.Ytjlglfjikfpboaa.lies Go.Proofs.Ytjlglfjikfpboaa.encs

theorem kind_byte {k : Int} (h1 : 1 ≤ k) (h5 : k ≤ 5) : (UInt8.ofNat k.toNat).toNat = k.toNat := ofNat_to (by omega)
theorem hd_enc {k : Int} {n : Nat} (h1 : 1 ≤ k) (h5 : k ≤ 5) (hn : n < 18446744073709551616) (rest : List UInt8) : hd (UInt8.ofNat k.toNat :: (putL n ++ rest)) = .ok k.toNat n rest := by
  simp only [hd]
  rw [kind_byte h1 h5, if_neg (by omega), getL_put hn]
  simp
theorem list_len_size (l : List T) : l.length ≤ sizeL l := by
  induction l with
  | nil => simp
  | cons t l ih => have := size_pos t; simp only [List.length_cons, sizeL]; omega
theorem head_word {t : T} (h : t.one = true) (hw : t.word) (hz : t.size ≤ 4000) : t.head < 18446744073709551616 := by
  have h1 : 0 ≤ t.n ∧ t.n < 18446744073709551616 := by cases t; exact hw.1.1
  have := list_len_size t.l
  rw [size_eq] at hz
  exact headlt h h1 (by omega)
theorem bytes_eq (s : ByteArray) : (⟨s.data.toList.toArray⟩ : ByteArray) = s := rfl
theorem empty_of {s : ByteArray} (h : s.data.toList = []) : s = ⟨#[]⟩ := by
  rw [← bytes_eq s, h]

/-- a term by its kind -/
theorem by_kind (t : T) (h : t.one = true) : (t.k = 2 ∧ t = .mk 2 0 t.s [] ∧ t.s.size ≤ 4000) ∨ (t.k = 5 ∧ t = .mk 5 0 ⟨#[]⟩ t.l) ∨ (t.k = 4 ∧ t = .mk 4 t.n ⟨#[]⟩ t.l ∧ t.l.length = 1) ∨ (t.k ≠ 2 ∧ t.k ≠ 5 ∧ t.k ≠ 4 ∧ t = .mk t.k t.n ⟨#[]⟩ []) := by
  obtain ⟨h1, h5, hs, hsn, h2n, h5n, hl, h4⟩ := one_kind h
  by_cases k2 : t.k = 2
  · refine .inl ⟨k2, ?_, hs⟩
    conv => lhs; rw [T.eta t, k2, h2n k2, hl (by omega) (by omega)]
  · have hse := empty_of (hsn k2)
    by_cases k5 : t.k = 5
    · refine .inr (.inl ⟨k5, ?_⟩)
      conv => lhs; rw [T.eta t, k5, h5n k5, hse]
    · by_cases k4 : t.k = 4
      · refine .inr (.inr (.inl ⟨k4, ?_, h4 k4⟩))
        conv => lhs; rw [T.eta t, k4, hse]
      · refine .inr (.inr (.inr ⟨k2, k5, k4, ?_⟩))
        conv => lhs; rw [T.eta t, hse, hl k4 k5]

theorem readT_succ (d : Nat) (s : List UInt8) (b : Nat) : readT (d + 1) s b = if 4000 ≤ b then .bad 23 else match hd s with | .bad e => .bad e | .ok k n r => body (readT d) k n r (b + 1) := rfl

theorem read_enc (N : Nat) : (∀ (t : T) (d b : Nat) (more : List UInt8), t.size ≤ N → t.shaped = true → t.word → t.deep ≤ d → b + t.size ≤ 4000 → readT d (t.enc ++ more) b = .ok t more (b + t.size)) ∧
    (∀ (l : List T) (d b : Nat) (more : List UInt8), sizeL l ≤ N → shapedL l = true → wordL l → deepL l ≤ d → b + sizeL l ≤ 4000 → many (readT d) l.length (encL l ++ more) b = .ok l more (b + sizeL l)) := by
  induction N with
  | zero =>
    refine ⟨fun t d b more h => by have := size_pos t; omega, fun l d b more h _ _ _ _ => ?_⟩
    cases l with
    | nil => rfl
    | cons t l => have := size_pos t; simp only [sizeL] at h; omega
  | succ N ih =>
    have hT : ∀ (t : T) (d b : Nat) (more : List UInt8), t.size ≤ N + 1 → t.shaped = true → t.word → t.deep ≤ d → b + t.size ≤ 4000 → readT d (t.enc ++ more) b = .ok t more (b + t.size) := by
      intro t d b more hN hsh hw hd hb
      rw [shaped_eq, Bool.and_eq_true] at hsh
      obtain ⟨hone, hsl⟩ := hsh
      have hz := size_eq t
      have hdp := deep_eq t
      have hhead := head_word hone hw (by omega)
      have hk := one_kind hone
      have hwl : wordL t.l := by cases t; exact hw.2
      have hwn : 0 ≤ t.n := by cases t; exact hw.1.1.1
      obtain ⟨d, rfl⟩ : ∃ d', d = d' + 1 := ⟨d - 1, by omega⟩
      rw [readT_succ, if_neg (by omega), enc_eq, List.cons_append, List.append_assoc, hd_enc hk.1 hk.2.1 hhead]
      have he := head_eq t
      show body (readT d) t.k.toNat t.head (t.s.data.toList ++ encL t.l ++ more) (b + 1) = _
      unfold body
      rcases by_kind t hone with ⟨k2, ht, hs4⟩ | ⟨k5, ht⟩ | ⟨k4, ht, h41⟩ | ⟨n2, n5, n4, ht⟩
      · rw [if_pos (by omega)]
        rw [if_pos k2] at he
        have hl : t.l = [] := by rw [ht]; rfl
        have hs' : t.s.data.toList.length = t.s.size := by simp
        rw [he, if_neg (by omega), if_neg (by simp), hl]
        simp only [encL, List.append_nil, List.take_left, List.drop_left]
        rw [hz, hl, bytes_eq]
        conv => rhs; rw [ht]
        rfl
      · have hs0 : t.s.data.toList = [] := by rw [ht]; rfl
        rw [if_neg (by omega), if_pos (by omega)]
        rw [if_neg (by omega), if_pos k5] at he
        rw [he, hs0, List.nil_append, ih.2 t.l d (b + 1) more (by omega) hsl hwl (by omega) (by omega)]
        show Res.ok (T.mk 5 0 ⟨#[]⟩ t.l) more (b + 1 + sizeL t.l) = _
        rw [← ht, hz, show b + 1 + sizeL t.l = b + (sizeL t.l + 1) by omega]
      · have hs0 : t.s.data.toList = [] := by rw [ht]; rfl
        rw [if_neg (by omega), if_neg (by omega), if_pos (by omega)]
        rw [if_neg (by omega), if_neg (by omega)] at he
        have := ih.2 t.l d (b + 1) more (by omega) hsl hwl (by omega) (by omega)
        rw [h41] at this
        rw [hs0, List.nil_append, this]
        show Res.ok (T.mk 4 (t.head : Int) ⟨#[]⟩ t.l) more (b + 1 + sizeL t.l) = _
        rw [he, Int.toNat_of_nonneg hwn, ← ht, hz, show b + 1 + sizeL t.l = b + (sizeL t.l + 1) by omega]
      · have hs0 : t.s.data.toList = [] := by rw [ht]; rfl
        have hl : t.l = [] := by rw [ht]; rfl
        rw [if_neg (by omega), if_neg (by omega), if_neg (by omega)]
        rw [if_neg n2, if_neg n5] at he
        rw [hs0, hl]
        show Res.ok (T.mk ((t.k.toNat : Nat) : Int) (t.head : Int) ⟨#[]⟩ []) ([] ++ encL [] ++ more) (b + 1) = _
        rw [he, Int.toNat_of_nonneg hwn, Int.toNat_of_nonneg (by omega), ← ht, hz, hl]
        rfl
    refine ⟨hT, fun l d b more h hsl hwl hd hb => ?_⟩
    cases l with
    | nil => rfl
    | cons t l =>
      simp only [sizeL] at h hb
      simp only [shapedL, Bool.and_eq_true] at hsl
      simp only [deepL] at hd
      have hp := size_pos t
      simp only [encL, List.length_cons, many, List.append_assoc]
      rw [hT t d b _ (by omega) hsl.1 hwl.1 (by omega) (by omega)]
      simp only []
      rw [ih.2 l d (b + t.size) more (by omega) hsl.2 hwl.2 (by omega) (by omega)]
      simp only [sizeL, Nat.add_assoc]
end Go.Proofs.Ytjlglfjikfpboaa.tm

/- Plain laws of reading, the other way: what is read is right and is written just so; a beginning of a right term's bytes is too short. -/

namespace Go.Proofs.Ytjlglfjikfpboaa.tm
set_option linter.unusedVariables false
set_option linter.unusedSimpArgs false
open Go.Proofs.Ytjlglfjikfpboaa.lies Go.Proofs.Ytjlglfjikfpboaa.encs

theorem hd_back {s r : List UInt8} {k n : Nat} (h : hd s = .ok k n r) : 1 ≤ k ∧ k ≤ 5 ∧ n < 18446744073709551616 ∧ s = UInt8.ofNat k :: (putL n ++ r) := by
  cases s with
  | nil => simp [hd] at h
  | cons c q =>
    simp only [hd] at h
    split at h
    · cases h
    · split at h
      · cases h
      · rename_i m hq
        injection h with e1 e2 e3
        subst e1 e2 e3
        obtain ⟨b1, b2, b3⟩ := getL_back hq
        refine ⟨by omega, by omega, b1, ?_⟩
        rw [UInt8.ofNat_toNat, ← b3, List.take_append_drop]

theorem one_atom {s : ByteArray} (h : s.size ≤ 4000) : (T.mk 2 0 s []).one = true := by simp [T.one, h]
theorem one_box (n : Int) {l : List T} (h : l.length = 1) : (T.mk 4 n ⟨#[]⟩ l).one = true := by simp [T.one, h]
theorem one_num {k : Int} (n : Int) (h : k = 1 ∨ k = 3) : (T.mk k n ⟨#[]⟩ []).one = true := by simp [T.one, h]

/-- what is read -/
structure Back (d b : Nat) (s : List UInt8) (t : T) (r : List UInt8) (b' : Nat) : Prop where
  bytes : s = t.enc ++ r
  shaped : t.shaped = true
  word : t.word
  deep : t.deep ≤ d
  count : b' = b + t.size
  most : b' ≤ 4000
structure BackL (d b : Nat) (s : List UInt8) (l : List T) (n : Nat) (r : List UInt8) (b' : Nat) : Prop where
  bytes : s = encL l ++ r
  len : l.length = n
  shaped : shapedL l = true
  word : wordL l
  deep : deepL l ≤ d
  count : b' = b + sizeL l
  most : b' ≤ 4000

theorem many_back (d : Nat) (ih : ∀ s b t r b', b ≤ 4000 → readT d s b = .ok t r b' → Back d b s t r b') (n : Nat) : ∀ s b l r b', b ≤ 4000 → many (readT d) n s b = .ok l r b' → BackL d b s l n r b' := by
  induction n with
  | zero =>
    intro s b l r b' hb h
    simp only [many] at h
    injection h with e1 e2 e3
    subst e1 e2 e3
    exact ⟨rfl, rfl, rfl, trivial, Nat.zero_le _, rfl, hb⟩
  | succ n ihn =>
    intro s b l r b' hb h
    simp only [many] at h
    cases hq : readT d s b with
    | bad e => rw [hq] at h; cases h
    | ok t s1 b1 =>
      rw [hq] at h
      simp only [] at h
      have h1 := ih _ _ _ _ _ hb hq
      cases hm : many (readT d) n s1 b1 with
      | bad e => rw [hm] at h; cases h
      | ok l2 s2 b2 =>
        rw [hm] at h
        simp only [] at h
        injection h with e1 e2 e3
        subst e1 e2 e3
        have h2 := ihn _ _ _ _ _ h1.most hm
        refine ⟨?_, by simp [h2.len], by simp [shapedL, h1.shaped, h2.shaped], ⟨h1.word, h2.word⟩, ?_, ?_, h2.most⟩
        · rw [h1.bytes, h2.bytes]; simp only [encL, List.append_assoc]
        · have a := h1.deep; have b := h2.deep; simp only [deepL]; omega
        · have a := h1.count; have b := h2.count; simp only [sizeL]; omega

theorem read_back (d : Nat) : ∀ s b t r b', b ≤ 4000 → readT d s b = .ok t r b' → Back d b s t r b' := by
  induction d with
  | zero =>
    intro s b t r b' hb h
    unfold readT at h
    split at h <;> cases h
  | succ d ih =>
    intro s b t r b' hb h
    rw [readT_succ] at h
    split at h
    · cases h
    · rename_i hb4
      cases hh : hd s with
      | bad e => rw [hh] at h; cases h
      | ok k n q =>
        rw [hh] at h
        simp only [] at h
        obtain ⟨k1, k5, hn, hs⟩ := hd_back hh
        unfold body at h
        by_cases c2 : k = 2
        · subst c2
          rw [if_pos rfl] at h
          split at h
          · cases h
          · split at h
            · cases h
            · rename_i c3 c4
              injection h with e1 e2 e3
              subst e1 e2 e3
              have hl : (q.take n).length = n := by rw [List.length_take]; omega
              refine ⟨?_, ?_, ⟨⟨⟨Int.le_refl 0, by show (0 : Int) < 18446744073709551616; omega⟩, by show 0 < 18446744073709551616; omega⟩, trivial⟩, by show 0 + 1 ≤ d + 1; omega, by show b + 1 = b + (0 + 1); omega, by omega⟩
              · rw [hs, enc_eq, head_eq, if_pos (show (T.mk 2 0 ⟨(q.take n).toArray⟩ []).k = 2 from rfl)]
                show _ = UInt8.ofNat 2 :: (putL (q.take n).length ++ (q.take n ++ [])) ++ q.drop n
                rw [hl]
                simp
              · have hsz : (⟨(q.take n).toArray⟩ : ByteArray).size ≤ 4000 := by show (q.take n).toArray.size ≤ 4000; simp; omega
                rw [shaped_eq, Bool.and_eq_true]
                refine ⟨?_, rfl⟩
                exact one_atom hsz
        · rw [if_neg c2] at h
          by_cases c5 : k = 5
          · subst c5
            rw [if_pos rfl] at h
            cases hm : many (readT d) n q (b + 1) with
            | bad e => rw [hm] at h; cases h
            | ok l q2 b2 =>
              rw [hm] at h
              simp only [] at h
              injection h with e1 e2 e3
              subst e1 e2 e3
              have hB := many_back d ih n _ _ _ _ _ (by omega) hm
              refine ⟨?_, ?_, ⟨⟨⟨Int.le_refl 0, by show (0 : Int) < 18446744073709551616; omega⟩, by show l.length < _; rw [hB.len]; exact hn⟩, hB.word⟩, by have := hB.deep; show deepL l + 1 ≤ d + 1; omega, by have := hB.count; show b2 = b + (sizeL l + 1); omega, hB.most⟩
              · rw [hs, hB.bytes, enc_eq, head_eq, if_neg (show ¬ (T.mk 5 0 ⟨#[]⟩ l).k = 2 from (by show ¬ (5 : Int) = 2; omega)), if_pos (show (T.mk 5 0 ⟨#[]⟩ l).k = 5 from rfl)]
                show _ = UInt8.ofNat 5 :: (putL l.length ++ ([] ++ encL l)) ++ q2
                rw [hB.len]
                simp
              · rw [shaped_eq, Bool.and_eq_true]
                exact ⟨rfl, hB.shaped⟩
          · rw [if_neg c5] at h
            by_cases c4 : k = 4
            · subst c4
              rw [if_pos rfl] at h
              cases hm : many (readT d) 1 q (b + 1) with
              | bad e => rw [hm] at h; cases h
              | ok l q2 b2 =>
                rw [hm] at h
                simp only [] at h
                injection h with e1 e2 e3
                subst e1 e2 e3
                have hB := many_back d ih 1 _ _ _ _ _ (by omega) hm
                refine ⟨?_, ?_, ⟨⟨⟨by show (0 : Int) ≤ (n : Int); omega, by show (n : Int) < 18446744073709551616; omega⟩, by show l.length < _; rw [hB.len]; omega⟩, hB.word⟩, by have := hB.deep; show deepL l + 1 ≤ d + 1; omega, by have := hB.count; show b2 = b + (sizeL l + 1); omega, hB.most⟩
                · rw [hs, hB.bytes, enc_eq, head_eq, if_neg (show ¬ (T.mk 4 n ⟨#[]⟩ l).k = 2 from (by show ¬ (4 : Int) = 2; omega)), if_neg (show ¬ (T.mk 4 n ⟨#[]⟩ l).k = 5 from (by show ¬ (4 : Int) = 5; omega))]
                  show _ = UInt8.ofNat 4 :: (putL n ++ ([] ++ encL l)) ++ q2
                  simp
                · rw [shaped_eq, Bool.and_eq_true]
                  refine ⟨?_, hB.shaped⟩
                  exact one_box _ hB.len
            · rw [if_neg c4] at h
              injection h with e1 e2 e3
              subst e1 e2 e3
              have hk : k = 1 ∨ k = 3 := by omega
              have hk2 : ¬ ((k : Int) = 2) := by omega
              have hk5 : ¬ ((k : Int) = 5) := by omega
              refine ⟨?_, ?_, ⟨⟨⟨by show (0 : Int) ≤ (n : Int); omega, by show (n : Int) < 18446744073709551616; omega⟩, by show 0 < 18446744073709551616; omega⟩, trivial⟩, by show 0 + 1 ≤ d + 1; omega, by show b + 1 = b + (0 + 1); omega, by omega⟩
              · rw [hs, enc_eq, head_eq, if_neg (show ¬ (T.mk k n ⟨#[]⟩ []).k = 2 from hk2), if_neg (show ¬ (T.mk k n ⟨#[]⟩ []).k = 5 from hk5)]
                show _ = UInt8.ofNat k :: (putL n ++ ([] ++ [])) ++ q
                simp
              · rw [shaped_eq, Bool.and_eq_true]
                refine ⟨?_, rfl⟩
                exact one_num _ (by omega)

theorem decode_back {s : List UInt8} {t : T} (h : tm.decode s = .ok t) : s = t.enc ∧ t.right = 0 ∧ t.word := by
  unfold tm.decode at h
  cases hq : readT 12 s 0 with
  | bad e => rw [hq] at h; cases h
  | ok t' r b =>
    rw [hq] at h
    simp only [] at h
    split at h
    · rename_i hr
      injection h with h
      subst h
      subst hr
      have hB := read_back 12 _ _ _ _ _ (by omega) hq
      refine ⟨by simpa using hB.bytes, ok_right (by have := hB.count; have := hB.most; omega) hB.deep hB.shaped, hB.word⟩
    · cases h
theorem decode_enc {t : T} (h : t.right = 0) (hw : t.word) (more : List UInt8) : tm.decode (t.enc ++ more) = if more = [] then .ok t else .bad 24 := by
  obtain ⟨h1, h2, h3⟩ := right_ok h
  unfold tm.decode
  rw [(read_enc t.size).1 t 12 0 more (Nat.le_refl _) h3 hw h2 (by omega)]
theorem enc_inj {a b : T} (ha : a.right = 0) (hb : b.right = 0) (wa : a.word) (wb : b.word) {x : List UInt8} (h : a.enc ++ x = b.enc) : a = b ∧ x = [] := by
  have h1 := decode_enc ha wa x
  have h2 := decode_enc hb wb []
  rw [List.append_nil, ← h, h1, if_pos rfl] at h2
  split at h2
  · injection h2 with h2
    exact ⟨h2, by assumption⟩
  · cases h2
end Go.Proofs.Ytjlglfjikfpboaa.tm

/- Plain laws of reading: a beginning of a right term's bytes that is not all of them is too short. -/

namespace Go.Proofs.Ytjlglfjikfpboaa.tm
set_option linter.unusedVariables false
set_option linter.unusedSimpArgs false
open Go.Proofs.Ytjlglfjikfpboaa.lies Go.Proofs.Ytjlglfjikfpboaa.encs

theorem take_app {α : Type} (a b : List α) (k : Nat) : (a ++ b).take k = if k < a.length then a.take k else a ++ b.take (k - a.length) := by
  split
  · rw [List.take_append_of_le_length (by omega)]
  · rw [List.take_append, List.take_of_length_le (by omega)]

theorem read_short (N : Nat) : (∀ (t : T) (d b k : Nat), t.size ≤ N → t.shaped = true → t.word → t.deep ≤ d → b + t.size ≤ 4000 → k < t.enc.length → readT d (t.enc.take k) b = .bad 20) ∧
    (∀ (l : List T) (d b k : Nat), sizeL l ≤ N → shapedL l = true → wordL l → deepL l ≤ d → b + sizeL l ≤ 4000 → k < (encL l).length → many (readT d) l.length ((encL l).take k) b = .bad 20) := by
  induction N with
  | zero =>
    refine ⟨fun t d b k h => by have := size_pos t; omega, fun l d b k h _ _ _ _ hk => ?_⟩
    cases l with
    | nil => simp [encL] at hk
    | cons t l => have := size_pos t; simp only [sizeL] at h; omega
  | succ N ih =>
    have hT : ∀ (t : T) (d b k : Nat), t.size ≤ N + 1 → t.shaped = true → t.word → t.deep ≤ d → b + t.size ≤ 4000 → k < t.enc.length → readT d (t.enc.take k) b = .bad 20 := by
      intro t d b k hN hsh hw hd hb hkl
      rw [shaped_eq, Bool.and_eq_true] at hsh
      obtain ⟨hone, hsl⟩ := hsh
      have hz := size_eq t
      have hdp := deep_eq t
      have hhead := head_word hone hw (by omega)
      have hk := one_kind hone
      have hwl : wordL t.l := by cases t; exact hw.2
      obtain ⟨d, rfl⟩ : ∃ d', d = d' + 1 := ⟨d - 1, by omega⟩
      rw [readT_succ, if_neg (by omega)]
      rw [enc_eq] at hkl ⊢
      rcases Nat.eq_zero_or_pos k with rfl | hkp
      · rfl
      · obtain ⟨k, rfl⟩ : ∃ k', k = k' + 1 := ⟨k - 1, by omega⟩
        rw [List.take_succ_cons]
        simp only [List.length_cons, List.length_append] at hkl
        rw [take_app]
        by_cases hp : k < (putL t.head).length
        · rw [if_pos hp]
          simp only [tm.hd]
          rw [kind_byte hk.1 hk.2.1, if_neg (by omega), getL_short hhead hp]
        · rw [if_neg hp, hd_enc hk.1 hk.2.1 hhead]
          have he := head_eq t
          show body (readT d) t.k.toNat t.head _ (b + 1) = _
          unfold body
          rcases by_kind t hone with ⟨k2, ht, hs4⟩ | ⟨k5, ht⟩ | ⟨k4, ht, h41⟩ | ⟨n2, n5, n4, ht⟩
          · rw [if_pos (by omega)]
            rw [if_pos k2] at he
            have hl : t.l = [] := by rw [ht]; rfl
            have hs' : t.s.data.toList.length = t.s.size := by simp
            rw [he, if_neg (by omega), if_pos ?_]
            rw [he] at hkl hp
            rw [hl] at hkl ⊢
            simp only [encL, List.append_nil, List.length_nil, List.length_take] at hkl ⊢
            omega
          · have hs0 : t.s.data.toList = [] := by rw [ht]; rfl
            rw [if_neg (by omega), if_pos (by omega)]
            rw [if_neg (by omega), if_pos k5] at he
            rw [hs0] at hkl
            rw [he, hs0, List.nil_append, ih.2 t.l d (b + 1) _ (by omega) hsl hwl (by omega) (by omega) (by simp at hkl; rw [he] at hp hkl; omega)]
          · have hs0 : t.s.data.toList = [] := by rw [ht]; rfl
            rw [if_neg (by omega), if_neg (by omega), if_pos (by omega)]
            rw [hs0] at hkl
            have := ih.2 t.l d (b + 1) (k - (putL t.head).length) (by omega) hsl hwl (by omega) (by omega) (by simp at hkl; omega)
            rw [h41] at this
            rw [hs0, List.nil_append, this]
          · have hs0 : t.s.data.toList = [] := by rw [ht]; rfl
            have hl : t.l = [] := by rw [ht]; rfl
            rw [hs0, hl] at hkl
            simp [encL] at hkl
            omega
    refine ⟨hT, fun l d b k h hsl hwl hd hb hk => ?_⟩
    cases l with
    | nil => simp [encL] at hk
    | cons t l =>
      simp only [sizeL] at h hb
      simp only [shapedL, Bool.and_eq_true] at hsl
      simp only [deepL] at hd
      have hp := size_pos t
      simp only [encL, List.length_append] at hk
      simp only [encL, List.length_cons, many]
      rw [take_app]
      by_cases hkt : k < t.enc.length
      · rw [if_pos hkt, hT t d b k (by omega) hsl.1 hwl.1 (by omega) (by omega) hkt]
      · rw [if_neg hkt, (read_enc (N + 1)).1 t d b _ (by omega) hsl.1 hwl.1 (by omega) (by omega)]
        simp only []
        rw [ih.2 l d (b + t.size) _ (by omega) hsl.2 hwl.2 (by omega) (by omega) (by omega)]

theorem decode_short {t : T} (h : t.right = 0) (hw : t.word) {k : Nat} (hk : k < t.enc.length) : tm.decode (t.enc.take k) = .bad 20 := by
  obtain ⟨h1, h2, h3⟩ := right_ok h
  unfold tm.decode
  rw [(read_short t.size).1 t 12 0 k (Nat.le_refl _) h3 hw h2 (by omega) hk]
end Go.Proofs.Ytjlglfjikfpboaa.tm

/- The walk of the law TermCuts: it answers true and writes nothing that was there. -/

namespace Go.Proofs.Ytjlglfjikfpboaa.cuts
set_option linter.unusedVariables false
set_option linter.unusedSimpArgs false
open Go.RowKit Go.Proofs.Ytjlglfjikfpboaa.base Go.Proofs.Ytjlglfjikfpboaa.tm Go.Proofs.Ytjlglfjikfpboaa.lies Go.Proofs.Ytjlglfjikfpboaa.rights Go.Proofs.Ytjlglfjikfpboaa.encs Go.Proofs.Ytjlglfjikfpboaa.refEncs

theorem decode_bad {s : ByteArray} {err : Int} (h : tm.decode s.data.toList = .bad err) (hs : s.size ≤ maxLen) (w : World) :
    Calls Try.prog 124 #[.string s] w fun e w' => e = .returned (.tuple #[.agg #[.int .i64 0, .int .u64 0, .string ⟨#[]⟩, .slice none 0 0], .int .i64 err]) ∧ Below w.heap.size w w' := by
  have := reads.decode_any s w hs
  rw [h] at this
  exact this.mono fun e w' ⟨hb, _, he⟩ => ⟨he, hb⟩
theorem decode_ok {s : ByteArray} {t : T} (h : tm.decode s.data.toList = .ok t) (hs : s.size ≤ maxLen) (w : World) :
    Calls Try.prog 124 #[.string s] w fun e w' => ∃ (A : Option Addr) (c : Nat), e = .returned (.tuple #[.agg #[.int .i64 t.k, .int .u64 t.n, .string t.s, .slice A t.l.length c], .int .i64 0]) ∧ Lies w' w'.heap.size t (.slice A t.l.length c) ∧ Below w.heap.size w w' := by
  have := reads.decode_any s w hs
  rw [h] at this
  exact this.mono fun e w' ⟨hb, A, c, he, hL⟩ => ⟨A, c, he, hL, hb⟩

theorem enc_size {t : T} (hR : t.right = 0) (hw : t.word) : t.enc.length ≤ 16044000 := by
  obtain ⟨h1, _, h3⟩ := right_ok hR
  have := enc_len t h3 hw
  omega

end Go.Proofs.Ytjlglfjikfpboaa.cuts

/- Same, the program's own: whether two terms are right and the same. -/

namespace Go.Proofs.Ytjlglfjikfpboaa.tm
set_option linter.unusedVariables false
set_option linter.unusedSimpArgs false
open Go.Proofs.Ytjlglfjikfpboaa.lies
mutual
def T.same : T → T → Bool
  | .mk k n s l, u => k == u.k && (n == u.n && (s.toList == u.s.toList && sameL l u.l))
def sameL : List T → List T → Bool
  | [], [] => true
  | t :: l, u :: m => t.same u && sameL l m
  | [], _ :: _ => false
  | _ :: _, [] => false
end
theorem same_eq (t u : T) : t.same u = (t.k == u.k && (t.n == u.n && (t.s.toList == u.s.toList && sameL t.l u.l))) := by cases t; rfl
theorem str_of_list {s u : ByteArray} (h : s.toList = u.toList) : s = u := by
  rw [tm.toList_eq, tm.toList_eq] at h
  apply ByteArray.ext
  exact Array.toList_inj.1 h
mutual
theorem same_refl : ∀ t : T, t.same t = true
  | .mk k n s l => by
    rw [same_eq]
    show (k == k && (n == n && (s.toList == s.toList && sameL l l))) = true
    rw [sameL_refl l]; simp
theorem sameL_refl : ∀ l : List T, sameL l l = true
  | [] => rfl
  | t :: l => by
    show (t.same t && sameL l l) = true
    rw [same_refl t, sameL_refl l]; rfl
end
mutual
theorem same_of : ∀ (t u : T), t.same u = true → t = u
  | .mk k n s l, .mk k' n' s' l', h => by
    rw [same_eq] at h
    simp only [Bool.and_eq_true, beq_iff_eq] at h
    obtain ⟨h1, h2, h3, h4⟩ := h
    have e1 : k = k' := h1
    have e2 : n = n' := h2
    have e3 : s = s' := str_of_list h3
    have e4 : l = l' := sameL_of l l' h4
    rw [e1, e2, e3, e4]
theorem sameL_of : ∀ (l m : List T), sameL l m = true → l = m
  | [], [], _ => rfl
  | t :: l, u :: m, h => by
    simp only [sameL, Bool.and_eq_true] at h
    rw [same_of t u h.1, sameL_of l m h.2]
  | [], _ :: _, h => by simp [sameL] at h
  | _ :: _, [], h => by simp [sameL] at h
end
theorem sameL_len {l m : List T} (h : l.length ≠ m.length) : sameL l m = false := by
  cases hq : sameL l m with
  | false => rfl
  | true => exact absurd (congrArg List.length (sameL_of l m hq)) h
end Go.Proofs.Ytjlglfjikfpboaa.tm

namespace Go.Proofs.Ytjlglfjikfpboaa.sames
open Go.RowKit Go.Proofs.Ytjlglfjikfpboaa.base Go.Proofs.Ytjlglfjikfpboaa.tm Go.Proofs.Ytjlglfjikfpboaa.lies Go.Proofs.Ytjlglfjikfpboaa.rights

theorem below_two' {w w1 w2 : World} (hb1 : Below w.heap.size w w1) {o o' : Obj} (h2 : Below ((w1.alloc o).alloc o').heap.size ((w1.alloc o).alloc o') w2) : Below w.heap.size w w2 :=
  ((hb1.alloc hb1.size o).alloc (by have := hb1.size; simp; omega) o').trans (h2.mono (by have := hb1.size; simp; omega))

/-- EqualFunc, at the loop's head -/
def EHead (W : World) (l m : List T) (i : Value) (wr : World) : Prop :=
  ∃ j : Nat, j ≤ l.length ∧ i = .int .i64 j ∧ Hid (sameL l m = sameL (l.drop j) (m.drop j)) ∧ Below W.heap.size W wr

theorem drop_step {l m : List T} {j : Nat} (h1 : j < l.length) (h2 : j < m.length) : sameL (l.drop j) (m.drop j) = (l[j].same m[j] && sameL (l.drop (j + 1)) (m.drop (j + 1))) := by
  rw [List.drop_eq_getElem_cons h1, List.drop_eq_getElem_cons h2]; rfl

end Go.Proofs.Ytjlglfjikfpboaa.sames

/- Same; the walk of the law TermBack: it answers true and writes nothing that was there. -/

namespace Go.Proofs.Ytjlglfjikfpboaa.backs
set_option linter.unusedVariables false
set_option linter.unusedSimpArgs false
open Go.RowKit Go.Proofs.Ytjlglfjikfpboaa.base Go.Proofs.Ytjlglfjikfpboaa.tm Go.Proofs.Ytjlglfjikfpboaa.lies Go.Proofs.Ytjlglfjikfpboaa.rights Go.Proofs.Ytjlglfjikfpboaa.encs Go.Proofs.Ytjlglfjikfpboaa.refEncs Go.Proofs.Ytjlglfjikfpboaa.sames Go.Proofs.Ytjlglfjikfpboaa.cuts

/-- the bytes that Encode answers -/
def encS (t : T) : ByteArray := if t.right = 0 then ⟨t.enc.toArray⟩ else ⟨#[]⟩
theorem encode_gen (t : T) (v : Value) (w : World) (hL : Lies w w.heap.size t v) :
    Calls Try.prog 24 #[T.val t v] w fun e w' => e = .returned (.tuple #[.string (encS t), .int .i64 t.right]) ∧ Below w.heap.size w w' := by
  unfold encS
  by_cases h : t.right = 0
  · rw [if_pos h, h]; exact encode_ok t v w hL h
  · rw [if_neg h]; exact encode_bad t v w hL h

theorem cut_ne {t u : T} (h : ∀ x : List UInt8, t.enc ++ x = u.enc → t = u ∧ x = []) (hne : t ≠ u) : ¬ ((⟨u.enc.toArray⟩ : ByteArray).extract 0 t.enc.length).toList = t.enc := by
  intro e
  rw [tm.toList_eq, numLaws.cut_list] at e
  have e' : u.enc.take t.enc.length = t.enc := e
  exact hne (h (u.enc.drop t.enc.length) (by have h2 := List.take_append_drop t.enc.length u.enc; rwa [e'] at h2)).1
theorem enc_ne {t u : T} (h : ∀ x : List UInt8, t.enc ++ x = u.enc → t = u ∧ x = []) (hne : t ≠ u) : (t.enc == u.enc) = false := by
  rw [beq_eq_false_iff_ne]
  intro e
  exact hne (h [] (by rw [List.append_nil]; exact e)).1

end Go.Proofs.Ytjlglfjikfpboaa.backs
