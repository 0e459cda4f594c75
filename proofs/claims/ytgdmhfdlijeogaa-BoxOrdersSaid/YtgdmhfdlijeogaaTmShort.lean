/- Plain laws of reading: a beginning of a right term's bytes that is not all of them is too short. -/
import Derived.Test.YtgdmhfdlijeogaaTmBack
namespace Go.Proofs.Ytgdmhfdlijeogaa.tm
set_option linter.unusedVariables false
set_option linter.unusedSimpArgs false
open Go.Proofs.Ytgdmhfdlijeogaa.lies Go.Proofs.Ytgdmhfdlijeogaa.encs

theorem take_app {α : Type} (a b : List α) (k : Nat) : (a ++ b).take k = if k < a.length then a.take k else a ++ b.take (k - a.length) := by
  split
  · rw [List.take_append_of_le_length (by omega)]
  · rw [List.take_append, List.take_of_length_le (by omega)]

theorem read_short (N : Nat) : (∀ (t : T) (d b k : Nat), t.size ≤ N → t.shaped = true → t.word → t.deep ≤ d → b + t.size ≤ 4000 → k < t.enc.length → readT d (t.enc.take k) b = .bad 20) ∧
    (∀ (l : List T) (d b k : Nat), sizeL l ≤ N → shapedL l = true → wordL l → deepL l ≤ d → b + sizeL l ≤ 4000 → k < (encL l).length → many (readT d) l.length ((encL l).take k) b = .bad 20) := by
  induction N with
  | zero =>
    refine ⟨fun t d b k h => by have := size_pos t; omega, fun l d b k h _ _ _ _ hk => ?_⟩
    cases l with
    | nil => simp [encL] at hk
    | cons t l => have := size_pos t; simp only [sizeL] at h; omega
  | succ N ih =>
    have hT : ∀ (t : T) (d b k : Nat), t.size ≤ N + 1 → t.shaped = true → t.word → t.deep ≤ d → b + t.size ≤ 4000 → k < t.enc.length → readT d (t.enc.take k) b = .bad 20 := by
      intro t d b k hN hsh hw hd hb hkl
      rw [shaped_eq, Bool.and_eq_true] at hsh
      obtain ⟨hone, hsl⟩ := hsh
      have hz := size_eq t
      have hdp := deep_eq t
      have hhead := head_word hone hw (by omega)
      have hk := one_kind hone
      have hwl : wordL t.l := by cases t; exact hw.2
      obtain ⟨d, rfl⟩ : ∃ d', d = d' + 1 := ⟨d - 1, by omega⟩
      rw [readT_succ, if_neg (by omega)]
      rw [enc_eq] at hkl ⊢
      rcases Nat.eq_zero_or_pos k with rfl | hkp
      · rfl
      · obtain ⟨k, rfl⟩ : ∃ k', k = k' + 1 := ⟨k - 1, by omega⟩
        rw [List.take_succ_cons]
        simp only [List.length_cons, List.length_append] at hkl
        rw [take_app]
        by_cases hp : k < (putL t.head).length
        · rw [if_pos hp]
          simp only [tm.hd]
          rw [kind_byte hk.1 hk.2.1, if_neg (by omega), getL_short hhead hp]
        · rw [if_neg hp, hd_enc hk.1 hk.2.1 hhead]
          have he := head_eq t
          show body (readT d) t.k.toNat t.head _ (b + 1) = _
          unfold body
          rcases by_kind t hone with ⟨k2, ht, hs4⟩ | ⟨k5, ht⟩ | ⟨k4, ht, h41⟩ | ⟨n2, n5, n4, ht⟩
          · rw [if_pos (by omega)]
            rw [if_pos k2] at he
            have hl : t.l = [] := by rw [ht]; rfl
            have hs' : t.s.data.toList.length = t.s.size := by simp
            rw [he, if_neg (by omega), if_pos ?_]
            rw [he] at hkl hp
            rw [hl] at hkl ⊢
            simp only [encL, List.append_nil, List.length_nil, List.length_take] at hkl ⊢
            omega
          · have hs0 : t.s.data.toList = [] := by rw [ht]; rfl
            rw [if_neg (by omega), if_pos (by omega)]
            rw [if_neg (by omega), if_pos k5] at he
            rw [hs0] at hkl
            rw [he, hs0, List.nil_append, ih.2 t.l d (b + 1) _ (by omega) hsl hwl (by omega) (by omega) (by simp at hkl; rw [he] at hp hkl; omega)]
          · have hs0 : t.s.data.toList = [] := by rw [ht]; rfl
            rw [if_neg (by omega), if_neg (by omega), if_pos (by omega)]
            rw [hs0] at hkl
            have := ih.2 t.l d (b + 1) (k - (putL t.head).length) (by omega) hsl hwl (by omega) (by omega) (by simp at hkl; omega)
            rw [h41] at this
            rw [hs0, List.nil_append, this]
          · have hs0 : t.s.data.toList = [] := by rw [ht]; rfl
            have hl : t.l = [] := by rw [ht]; rfl
            rw [hs0, hl] at hkl
            simp [encL] at hkl
            omega
    refine ⟨hT, fun l d b k h hsl hwl hd hb hk => ?_⟩
    cases l with
    | nil => simp [encL] at hk
    | cons t l =>
      simp only [sizeL] at h hb
      simp only [shapedL, Bool.and_eq_true] at hsl
      simp only [deepL] at hd
      have hp := size_pos t
      simp only [encL, List.length_append] at hk
      simp only [encL, List.length_cons, many]
      rw [take_app]
      by_cases hkt : k < t.enc.length
      · rw [if_pos hkt, hT t d b k (by omega) hsl.1 hwl.1 (by omega) (by omega) hkt]
      · rw [if_neg hkt, (read_enc (N + 1)).1 t d b _ (by omega) hsl.1 hwl.1 (by omega) (by omega)]
        simp only []
        rw [ih.2 l d (b + t.size) _ (by omega) hsl.2 hwl.2 (by omega) (by omega) (by omega)]

theorem decode_short {t : T} (h : t.right = 0) (hw : t.word) {k : Nat} (hk : k < t.enc.length) : tm.decode (t.enc.take k) = .bad 20 := by
  obtain ⟨h1, h2, h3⟩ := right_ok h
  unfold tm.decode
  rw [(read_short t.size).1 t 12 0 k (Nat.le_refl _) h3 hw h2 (by omega) hk]
end Go.Proofs.Ytgdmhfdlijeogaa.tm
