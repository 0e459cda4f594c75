/- Plain laws of reading: a right term is read back; what is read is right and is written just so; a beginning is too short. -/
import Derived.Test.YtgdmhfdlijeogaaLies
import Derived.Test.YtgdmhfdlijeogaaEnc
namespace Go.Proofs.Ytgdmhfdlijeogaa.tm
set_option linter.unusedVariables false
set_option linter.unusedSimpArgs false
open Go.Proofs.Ytgdmhfdlijeogaa.lies Go.Proofs.Ytgdmhfdlijeogaa.encs

theorem kind_byte {k : Int} (h1 : 1 ≤ k) (h5 : k ≤ 5) : (UInt8.ofNat k.toNat).toNat = k.toNat := ofNat_to (by omega)
theorem hd_enc {k : Int} {n : Nat} (h1 : 1 ≤ k) (h5 : k ≤ 5) (hn : n < 18446744073709551616) (rest : List UInt8) : hd (UInt8.ofNat k.toNat :: (putL n ++ rest)) = .ok k.toNat n rest := by
  simp only [hd]
  rw [kind_byte h1 h5, if_neg (by omega), getL_put hn]
  simp
theorem list_len_size (l : List T) : l.length ≤ sizeL l := by
  induction l with
  | nil => simp
  | cons t l ih => have := size_pos t; simp only [List.length_cons, sizeL]; omega
theorem head_word {t : T} (h : t.one = true) (hw : t.word) (hz : t.size ≤ 4000) : t.head < 18446744073709551616 := by
  have h1 : 0 ≤ t.n ∧ t.n < 18446744073709551616 := by cases t; exact hw.1.1
  have := list_len_size t.l
  rw [size_eq] at hz
  exact headlt h h1 (by omega)
theorem bytes_eq (s : ByteArray) : (⟨s.data.toList.toArray⟩ : ByteArray) = s := rfl
theorem empty_of {s : ByteArray} (h : s.data.toList = []) : s = ⟨#[]⟩ := by
  rw [← bytes_eq s, h]

/-- a term by its kind -/
theorem by_kind (t : T) (h : t.one = true) : (t.k = 2 ∧ t = .mk 2 0 t.s [] ∧ t.s.size ≤ 4000) ∨ (t.k = 5 ∧ t = .mk 5 0 ⟨#[]⟩ t.l) ∨ (t.k = 4 ∧ t = .mk 4 t.n ⟨#[]⟩ t.l ∧ t.l.length = 1) ∨ (t.k ≠ 2 ∧ t.k ≠ 5 ∧ t.k ≠ 4 ∧ t = .mk t.k t.n ⟨#[]⟩ []) := by
  obtain ⟨h1, h5, hs, hsn, h2n, h5n, hl, h4⟩ := one_kind h
  by_cases k2 : t.k = 2
  · refine .inl ⟨k2, ?_, hs⟩
    conv => lhs; rw [T.eta t, k2, h2n k2, hl (by omega) (by omega)]
  · have hse := empty_of (hsn k2)
    by_cases k5 : t.k = 5
    · refine .inr (.inl ⟨k5, ?_⟩)
      conv => lhs; rw [T.eta t, k5, h5n k5, hse]
    · by_cases k4 : t.k = 4
      · refine .inr (.inr (.inl ⟨k4, ?_, h4 k4⟩))
        conv => lhs; rw [T.eta t, k4, hse]
      · refine .inr (.inr (.inr ⟨k2, k5, k4, ?_⟩))
        conv => lhs; rw [T.eta t, hse, hl k4 k5]

theorem readT_succ (d : Nat) (s : List UInt8) (b : Nat) : readT (d + 1) s b = if 4000 ≤ b then .bad 23 else match hd s with | .bad e => .bad e | .ok k n r => body (readT d) k n r (b + 1) := rfl

theorem read_enc (N : Nat) : (∀ (t : T) (d b : Nat) (more : List UInt8), t.size ≤ N → t.shaped = true → t.word → t.deep ≤ d → b + t.size ≤ 4000 → readT d (t.enc ++ more) b = .ok t more (b + t.size)) ∧
    (∀ (l : List T) (d b : Nat) (more : List UInt8), sizeL l ≤ N → shapedL l = true → wordL l → deepL l ≤ d → b + sizeL l ≤ 4000 → many (readT d) l.length (encL l ++ more) b = .ok l more (b + sizeL l)) := by
  induction N with
  | zero =>
    refine ⟨fun t d b more h => by have := size_pos t; omega, fun l d b more h _ _ _ _ => ?_⟩
    cases l with
    | nil => rfl
    | cons t l => have := size_pos t; simp only [sizeL] at h; omega
  | succ N ih =>
    have hT : ∀ (t : T) (d b : Nat) (more : List UInt8), t.size ≤ N + 1 → t.shaped = true → t.word → t.deep ≤ d → b + t.size ≤ 4000 → readT d (t.enc ++ more) b = .ok t more (b + t.size) := by
      intro t d b more hN hsh hw hd hb
      rw [shaped_eq, Bool.and_eq_true] at hsh
      obtain ⟨hone, hsl⟩ := hsh
      have hz := size_eq t
      have hdp := deep_eq t
      have hhead := head_word hone hw (by omega)
      have hk := one_kind hone
      have hwl : wordL t.l := by cases t; exact hw.2
      have hwn : 0 ≤ t.n := by cases t; exact hw.1.1.1
      obtain ⟨d, rfl⟩ : ∃ d', d = d' + 1 := ⟨d - 1, by omega⟩
      rw [readT_succ, if_neg (by omega), enc_eq, List.cons_append, List.append_assoc, hd_enc hk.1 hk.2.1 hhead]
      have he := head_eq t
      show body (readT d) t.k.toNat t.head (t.s.data.toList ++ encL t.l ++ more) (b + 1) = _
      unfold body
      rcases by_kind t hone with ⟨k2, ht, hs4⟩ | ⟨k5, ht⟩ | ⟨k4, ht, h41⟩ | ⟨n2, n5, n4, ht⟩
      · rw [if_pos (by omega)]
        rw [if_pos k2] at he
        have hl : t.l = [] := by rw [ht]; rfl
        have hs' : t.s.data.toList.length = t.s.size := by simp
        rw [he, if_neg (by omega), if_neg (by simp), hl]
        simp only [encL, List.append_nil, List.take_left, List.drop_left]
        rw [hz, hl, bytes_eq]
        conv => rhs; rw [ht]
        rfl
      · have hs0 : t.s.data.toList = [] := by rw [ht]; rfl
        rw [if_neg (by omega), if_pos (by omega)]
        rw [if_neg (by omega), if_pos k5] at he
        rw [he, hs0, List.nil_append, ih.2 t.l d (b + 1) more (by omega) hsl hwl (by omega) (by omega)]
        show Res.ok (T.mk 5 0 ⟨#[]⟩ t.l) more (b + 1 + sizeL t.l) = _
        rw [← ht, hz, show b + 1 + sizeL t.l = b + (sizeL t.l + 1) by omega]
      · have hs0 : t.s.data.toList = [] := by rw [ht]; rfl
        rw [if_neg (by omega), if_neg (by omega), if_pos (by omega)]
        rw [if_neg (by omega), if_neg (by omega)] at he
        have := ih.2 t.l d (b + 1) more (by omega) hsl hwl (by omega) (by omega)
        rw [h41] at this
        rw [hs0, List.nil_append, this]
        show Res.ok (T.mk 4 (t.head : Int) ⟨#[]⟩ t.l) more (b + 1 + sizeL t.l) = _
        rw [he, Int.toNat_of_nonneg hwn, ← ht, hz, show b + 1 + sizeL t.l = b + (sizeL t.l + 1) by omega]
      · have hs0 : t.s.data.toList = [] := by rw [ht]; rfl
        have hl : t.l = [] := by rw [ht]; rfl
        rw [if_neg (by omega), if_neg (by omega), if_neg (by omega)]
        rw [if_neg n2, if_neg n5] at he
        rw [hs0, hl]
        show Res.ok (T.mk ((t.k.toNat : Nat) : Int) (t.head : Int) ⟨#[]⟩ []) ([] ++ encL [] ++ more) (b + 1) = _
        rw [he, Int.toNat_of_nonneg hwn, Int.toNat_of_nonneg (by omega), ← ht, hz, hl]
        rfl
    refine ⟨hT, fun l d b more h hsl hwl hd hb => ?_⟩
    cases l with
    | nil => rfl
    | cons t l =>
      simp only [sizeL] at h hb
      simp only [shapedL, Bool.and_eq_true] at hsl
      simp only [deepL] at hd
      have hp := size_pos t
      simp only [encL, List.length_cons, many, List.append_assoc]
      rw [hT t d b _ (by omega) hsl.1 hwl.1 (by omega) (by omega)]
      simp only []
      rw [ih.2 l d (b + t.size) more (by omega) hsl.2 hwl.2 (by omega) (by omega)]
      simp only [sizeL, Nat.add_assoc]
end Go.Proofs.Ytgdmhfdlijeogaa.tm
