/- Plain laws of reading, the other way: what is read is right and is written just so; a beginning of a right term's bytes is too short. -/
import Derived.Test.YtgdmhfdlijeogaaTmDec
import Derived.Test.YtgdmhfdlijeogaaEncode
namespace Go.Proofs.Ytgdmhfdlijeogaa.tm
set_option linter.unusedVariables false
set_option linter.unusedSimpArgs false
open Go.Proofs.Ytgdmhfdlijeogaa.lies Go.Proofs.Ytgdmhfdlijeogaa.encs

theorem hd_back {s r : List UInt8} {k n : Nat} (h : hd s = .ok k n r) : 1 ≤ k ∧ k ≤ 5 ∧ n < 18446744073709551616 ∧ s = UInt8.ofNat k :: (putL n ++ r) := by
  cases s with
  | nil => simp [hd] at h
  | cons c q =>
    simp only [hd] at h
    split at h
    · cases h
    · split at h
      · cases h
      · rename_i m hq
        injection h with e1 e2 e3
        subst e1 e2 e3
        obtain ⟨b1, b2, b3⟩ := getL_back hq
        refine ⟨by omega, by omega, b1, ?_⟩
        rw [UInt8.ofNat_toNat, ← b3, List.take_append_drop]

theorem one_atom {s : ByteArray} (h : s.size ≤ 4000) : (T.mk 2 0 s []).one = true := by simp [T.one, h]
theorem one_box (n : Int) {l : List T} (h : l.length = 1) : (T.mk 4 n ⟨#[]⟩ l).one = true := by simp [T.one, h]
theorem one_num {k : Int} (n : Int) (h : k = 1 ∨ k = 3) : (T.mk k n ⟨#[]⟩ []).one = true := by simp [T.one, h]

/-- what is read -/
structure Back (d b : Nat) (s : List UInt8) (t : T) (r : List UInt8) (b' : Nat) : Prop where
  bytes : s = t.enc ++ r
  shaped : t.shaped = true
  word : t.word
  deep : t.deep ≤ d
  count : b' = b + t.size
  most : b' ≤ 4000
structure BackL (d b : Nat) (s : List UInt8) (l : List T) (n : Nat) (r : List UInt8) (b' : Nat) : Prop where
  bytes : s = encL l ++ r
  len : l.length = n
  shaped : shapedL l = true
  word : wordL l
  deep : deepL l ≤ d
  count : b' = b + sizeL l
  most : b' ≤ 4000

theorem many_back (d : Nat) (ih : ∀ s b t r b', b ≤ 4000 → readT d s b = .ok t r b' → Back d b s t r b') (n : Nat) : ∀ s b l r b', b ≤ 4000 → many (readT d) n s b = .ok l r b' → BackL d b s l n r b' := by
  induction n with
  | zero =>
    intro s b l r b' hb h
    simp only [many] at h
    injection h with e1 e2 e3
    subst e1 e2 e3
    exact ⟨rfl, rfl, rfl, trivial, Nat.zero_le _, rfl, hb⟩
  | succ n ihn =>
    intro s b l r b' hb h
    simp only [many] at h
    cases hq : readT d s b with
    | bad e => rw [hq] at h; cases h
    | ok t s1 b1 =>
      rw [hq] at h
      simp only [] at h
      have h1 := ih _ _ _ _ _ hb hq
      cases hm : many (readT d) n s1 b1 with
      | bad e => rw [hm] at h; cases h
      | ok l2 s2 b2 =>
        rw [hm] at h
        simp only [] at h
        injection h with e1 e2 e3
        subst e1 e2 e3
        have h2 := ihn _ _ _ _ _ h1.most hm
        refine ⟨?_, by simp [h2.len], by simp [shapedL, h1.shaped, h2.shaped], ⟨h1.word, h2.word⟩, ?_, ?_, h2.most⟩
        · rw [h1.bytes, h2.bytes]; simp only [encL, List.append_assoc]
        · have a := h1.deep; have b := h2.deep; simp only [deepL]; omega
        · have a := h1.count; have b := h2.count; simp only [sizeL]; omega

theorem read_back (d : Nat) : ∀ s b t r b', b ≤ 4000 → readT d s b = .ok t r b' → Back d b s t r b' := by
  induction d with
  | zero =>
    intro s b t r b' hb h
    unfold readT at h
    split at h <;> cases h
  | succ d ih =>
    intro s b t r b' hb h
    rw [readT_succ] at h
    split at h
    · cases h
    · rename_i hb4
      cases hh : hd s with
      | bad e => rw [hh] at h; cases h
      | ok k n q =>
        rw [hh] at h
        simp only [] at h
        obtain ⟨k1, k5, hn, hs⟩ := hd_back hh
        unfold body at h
        by_cases c2 : k = 2
        · subst c2
          rw [if_pos rfl] at h
          split at h
          · cases h
          · split at h
            · cases h
            · rename_i c3 c4
              injection h with e1 e2 e3
              subst e1 e2 e3
              have hl : (q.take n).length = n := by rw [List.length_take]; omega
              refine ⟨?_, ?_, ⟨⟨⟨Int.le_refl 0, by show (0 : Int) < 18446744073709551616; omega⟩, by show 0 < 18446744073709551616; omega⟩, trivial⟩, by show 0 + 1 ≤ d + 1; omega, by show b + 1 = b + (0 + 1); omega, by omega⟩
              · rw [hs, enc_eq, head_eq, if_pos (show (T.mk 2 0 ⟨(q.take n).toArray⟩ []).k = 2 from rfl)]
                show _ = UInt8.ofNat 2 :: (putL (q.take n).length ++ (q.take n ++ [])) ++ q.drop n
                rw [hl]
                simp
              · have hsz : (⟨(q.take n).toArray⟩ : ByteArray).size ≤ 4000 := by show (q.take n).toArray.size ≤ 4000; simp; omega
                rw [shaped_eq, Bool.and_eq_true]
                refine ⟨?_, rfl⟩
                exact one_atom hsz
        · rw [if_neg c2] at h
          by_cases c5 : k = 5
          · subst c5
            rw [if_pos rfl] at h
            cases hm : many (readT d) n q (b + 1) with
            | bad e => rw [hm] at h; cases h
            | ok l q2 b2 =>
              rw [hm] at h
              simp only [] at h
              injection h with e1 e2 e3
              subst e1 e2 e3
              have hB := many_back d ih n _ _ _ _ _ (by omega) hm
              refine ⟨?_, ?_, ⟨⟨⟨Int.le_refl 0, by show (0 : Int) < 18446744073709551616; omega⟩, by show l.length < _; rw [hB.len]; exact hn⟩, hB.word⟩, by have := hB.deep; show deepL l + 1 ≤ d + 1; omega, by have := hB.count; show b2 = b + (sizeL l + 1); omega, hB.most⟩
              · rw [hs, hB.bytes, enc_eq, head_eq, if_neg (show ¬ (T.mk 5 0 ⟨#[]⟩ l).k = 2 from (by show ¬ (5 : Int) = 2; omega)), if_pos (show (T.mk 5 0 ⟨#[]⟩ l).k = 5 from rfl)]
                show _ = UInt8.ofNat 5 :: (putL l.length ++ ([] ++ encL l)) ++ q2
                rw [hB.len]
                simp
              · rw [shaped_eq, Bool.and_eq_true]
                exact ⟨rfl, hB.shaped⟩
          · rw [if_neg c5] at h
            by_cases c4 : k = 4
            · subst c4
              rw [if_pos rfl] at h
              cases hm : many (readT d) 1 q (b + 1) with
              | bad e => rw [hm] at h; cases h
              | ok l q2 b2 =>
                rw [hm] at h
                simp only [] at h
                injection h with e1 e2 e3
                subst e1 e2 e3
                have hB := many_back d ih 1 _ _ _ _ _ (by omega) hm
                refine ⟨?_, ?_, ⟨⟨⟨by show (0 : Int) ≤ (n : Int); omega, by show (n : Int) < 18446744073709551616; omega⟩, by show l.length < _; rw [hB.len]; omega⟩, hB.word⟩, by have := hB.deep; show deepL l + 1 ≤ d + 1; omega, by have := hB.count; show b2 = b + (sizeL l + 1); omega, hB.most⟩
                · rw [hs, hB.bytes, enc_eq, head_eq, if_neg (show ¬ (T.mk 4 n ⟨#[]⟩ l).k = 2 from (by show ¬ (4 : Int) = 2; omega)), if_neg (show ¬ (T.mk 4 n ⟨#[]⟩ l).k = 5 from (by show ¬ (4 : Int) = 5; omega))]
                  show _ = UInt8.ofNat 4 :: (putL n ++ ([] ++ encL l)) ++ q2
                  simp
                · rw [shaped_eq, Bool.and_eq_true]
                  refine ⟨?_, hB.shaped⟩
                  exact one_box _ hB.len
            · rw [if_neg c4] at h
              injection h with e1 e2 e3
              subst e1 e2 e3
              have hk : k = 1 ∨ k = 3 := by omega
              have hk2 : ¬ ((k : Int) = 2) := by omega
              have hk5 : ¬ ((k : Int) = 5) := by omega
              refine ⟨?_, ?_, ⟨⟨⟨by show (0 : Int) ≤ (n : Int); omega, by show (n : Int) < 18446744073709551616; omega⟩, by show 0 < 18446744073709551616; omega⟩, trivial⟩, by show 0 + 1 ≤ d + 1; omega, by show b + 1 = b + (0 + 1); omega, by omega⟩
              · rw [hs, enc_eq, head_eq, if_neg (show ¬ (T.mk k n ⟨#[]⟩ []).k = 2 from hk2), if_neg (show ¬ (T.mk k n ⟨#[]⟩ []).k = 5 from hk5)]
                show _ = UInt8.ofNat k :: (putL n ++ ([] ++ [])) ++ q
                simp
              · rw [shaped_eq, Bool.and_eq_true]
                refine ⟨?_, rfl⟩
                exact one_num _ (by omega)

theorem decode_back {s : List UInt8} {t : T} (h : tm.decode s = .ok t) : s = t.enc ∧ t.right = 0 ∧ t.word := by
  unfold tm.decode at h
  cases hq : readT 12 s 0 with
  | bad e => rw [hq] at h; cases h
  | ok t' r b =>
    rw [hq] at h
    simp only [] at h
    split at h
    · rename_i hr
      injection h with h
      subst h
      subst hr
      have hB := read_back 12 _ _ _ _ _ (by omega) hq
      refine ⟨by simpa using hB.bytes, ok_right (by have := hB.count; have := hB.most; omega) hB.deep hB.shaped, hB.word⟩
    · cases h
theorem decode_enc {t : T} (h : t.right = 0) (hw : t.word) (more : List UInt8) : tm.decode (t.enc ++ more) = if more = [] then .ok t else .bad 24 := by
  obtain ⟨h1, h2, h3⟩ := right_ok h
  unfold tm.decode
  rw [(read_enc t.size).1 t 12 0 more (Nat.le_refl _) h3 hw h2 (by omega)]
theorem enc_inj {a b : T} (ha : a.right = 0) (hb : b.right = 0) (wa : a.word) (wb : b.word) {x : List UInt8} (h : a.enc ++ x = b.enc) : a = b ∧ x = [] := by
  have h1 := decode_enc ha wa x
  have h2 := decode_enc hb wb []
  rw [List.append_nil, ← h, h1, if_pos rfl] at h2
  split at h2
  · injection h2 with h2
    exact ⟨h2, by assumption⟩
  · cases h2
end Go.Proofs.Ytgdmhfdlijeogaa.tm
