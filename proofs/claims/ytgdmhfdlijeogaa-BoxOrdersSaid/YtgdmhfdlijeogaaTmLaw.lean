/- Plain laws of terms' bytes: a number in sevens is read back; a right term is read back; what is read is right and is written just so; a beginning is too short. -/
import Derived.Test.YtgdmhfdlijeogaaTm
import Derived.Laws.Strings
namespace Go.Proofs.Ytgdmhfdlijeogaa.tm
set_option linter.unusedVariables false
set_option linter.unusedSimpArgs false

theorem toList_eq (s : ByteArray) : s.toList = s.data.toList := Go.ByteArray.toList_eq s
theorem one_eq (t : T) : t.one = if t.k = 1 ∨ t.k = 3 then t.s.toList.isEmpty && decide (t.l.length = 0)
    else if t.k = 2 then decide (t.n = 0) && decide (t.l.length = 0) && decide (t.s.size ≤ 4000)
    else if t.k = 4 then t.s.toList.isEmpty && decide (t.l.length = 1)
    else if t.k = 5 then decide (t.n = 0) && t.s.toList.isEmpty
    else false := by
  cases t
  simp only [T.one, T.k, T.s, T.l, T.n, toList_eq]
  rfl

theorem putL_lo {n : Nat} (h : n < 128) : putL n = [UInt8.ofNat n] := by rw [putL]; simp [h]
theorem putL_hi {n : Nat} (h : ¬ n < 128) : putL n = UInt8.ofNat (n % 128 + 128) :: putL (n / 128) := by rw [putL]; simp [h]
theorem putL_len (j : Nat) : ∀ n, n < 128 ^ j → 0 < j → 1 ≤ (putL n).length ∧ (putL n).length ≤ j := by
  induction j with
  | zero => intro n _ h; omega
  | succ j ih =>
    intro n hn _
    by_cases h : n < 128
    · rw [putL_lo h]; simp
    · rw [putL_hi h]
      rcases Nat.eq_zero_or_pos j with rfl | hj
      · simp at hn; omega
      · have := ih (n / 128) (by rw [Nat.pow_succ] at hn; exact Nat.div_lt_of_lt_mul (by omega)) hj
        simp only [List.length_cons]; omega
theorem putL_ten {n : Nat} (h : n < 18446744073709551616) : 1 ≤ (putL n).length ∧ (putL n).length ≤ 10 :=
  putL_len 10 n (by omega) (by omega)

theorem byte_lt (b : UInt8) : b.toNat < 256 := b.toNat_lt
theorem ofNat_to {n : Nat} (h : n < 256) : (UInt8.ofNat n).toNat = n := by simp; omega

theorem pow9 : 128 ^ 9 = 9223372036854775808 := by decide
theorem pow_le9 {i : Nat} (h : i ≤ 9) : 128 ^ i ≤ 9223372036854775808 := by rw [← pow9]; exact Nat.pow_le_pow_right (by omega) h

/-- what is written is read, whatever stands behind -/
theorem getFrom_put (j : Nat) : ∀ (i n acc : Nat) (more : List UInt8), i + j = 10 → 0 < j → n * 128 ^ i < 18446744073709551616 → (0 < i → 0 < n) →
    getFrom i acc (putL n ++ more) = .ok (acc + n * 128 ^ i) (i + (putL n).length) := by
  induction j with
  | zero => intro i n acc more _ h; omega
  | succ j ih =>
    intro i n acc more hij _ hn hpos
    have hp : 0 < 128 ^ i := Nat.pow_pos (by omega)
    have h9 : i = 9 → n ≤ 1 := by
      rintro rfl
      rw [pow9] at hn
      omega
    by_cases h : n < 128
    · rw [putL_lo h]
      simp only [List.singleton_append, getFrom]
      rw [ofNat_to (by omega), if_neg (by intro ⟨a, b⟩; have := h9 a; omega), if_neg (by omega), if_neg (by intro ⟨a, b⟩; have := hpos b; omega)]
      simp
    · rw [putL_hi h]
      have hi9 : i ≠ 9 := fun e => by have := h9 e; omega
      simp only [List.cons_append, getFrom]
      rw [ofNat_to (by omega), if_neg (by omega), if_pos (by omega)]
      have hm : (n % 128 + 128) % 128 = n % 128 := by omega
      rw [hm]
      have e1 : n / 128 * 128 ^ (i + 1) = n / 128 * 128 * 128 ^ i := by rw [Nat.pow_succ, Nat.mul_assoc, Nat.mul_comm 128]
      have e2 : n % 128 * 128 ^ i + n / 128 * 128 * 128 ^ i = n * 128 ^ i := by
        rw [← Nat.add_mul]; congr 1; omega
      rw [ih (i + 1) (n / 128) _ more (by omega) (by omega) (by rw [e1]; omega) (fun _ => by omega)]
      rw [List.length_cons, Nat.add_assoc, e1, e2]
      congr 1
      omega
theorem getL_put {n : Nat} (h : n < 18446744073709551616) (more : List UInt8) : getL (putL n ++ more) = .ok n (putL n).length := by
  have := getFrom_put 10 0 n 0 more rfl (by omega) (by simpa using h) (by omega)
  simpa [getL] using this

/-- a beginning of what is written is too short -/
theorem getFrom_short (j : Nat) : ∀ (i n acc k : Nat), i + j = 10 → n * 128 ^ i < 18446744073709551616 → k < (putL n).length →
    getFrom i acc ((putL n).take k) = .bad 20 := by
  induction j with
  | zero =>
    intro i n acc k hij hn hk
    have : n < 128 := by
      have e : i = 9 + 1 := by omega
      rw [e, Nat.pow_succ, pow9] at hn
      omega
    rw [putL_lo this] at hk ⊢
    obtain rfl : k = 0 := by simp at hk; omega
    simp [getFrom]
  | succ j ih =>
    intro i n acc k hij hn hk
    have hp : 0 < 128 ^ i := Nat.pow_pos (by omega)
    rcases Nat.eq_zero_or_pos k with rfl | hk0
    · simp [getFrom]
    · obtain ⟨k, rfl⟩ : ∃ m, k = m + 1 := ⟨k - 1, by omega⟩
      by_cases h : n < 128
      · rw [putL_lo h] at hk; simp at hk
      · have hi9 : i ≠ 9 := by
          rintro rfl
          rw [pow9] at hn
          omega
        rw [putL_hi h] at hk ⊢
        simp only [List.take_succ_cons, getFrom]
        rw [ofNat_to (by omega), if_neg (by omega), if_pos (by omega)]
        have e1 : n / 128 * 128 ^ (i + 1) = n / 128 * 128 * 128 ^ i := by rw [Nat.pow_succ, Nat.mul_assoc, Nat.mul_comm 128]
        have e2 : n / 128 * 128 * 128 ^ i ≤ n * 128 ^ i := Nat.mul_le_mul_right _ (by omega)
        exact ih (i + 1) (n / 128) _ k (by omega) (by rw [e1]; omega) (by simpa using hk)
theorem getL_short {n : Nat} (h : n < 18446744073709551616) {k : Nat} (hk : k < (putL n).length) : getL ((putL n).take k) = .bad 20 :=
  getFrom_short 10 0 n 0 k rfl (by simpa using h) hk

/-- what is read is written just so -/
theorem getFrom_back (s : List UInt8) : ∀ (i acc n k : Nat), getFrom i acc s = .ok n k → i ≤ 9 → acc < 128 ^ i →
    ∃ m, n = acc + m * 128 ^ i ∧ (0 < i → 0 < m) ∧ n < 18446744073709551616 ∧ k = i + (putL m).length ∧ s.take (putL m).length = putL m := by
  induction s with
  | nil => intro i acc n k h; simp [getFrom] at h
  | cons b r ih =>
    intro i acc n k h hi hacc
    have hp : 0 < 128 ^ i := Nat.pow_pos (by omega)
    have hp9 := pow_le9 hi
    have hb := byte_lt b
    rw [getFrom] at h
    by_cases h1 : i = 9 ∧ 1 < b.toNat
    · rw [if_pos h1] at h; cases h
    · rw [if_neg h1] at h
      by_cases h2 : 128 ≤ b.toNat
      · rw [if_pos h2] at h
        have hi8 : i ≤ 8 := by omega
        have hlt : acc + b.toNat % 128 * 128 ^ i < 128 ^ (i + 1) := by
          have : b.toNat % 128 * 128 ^ i ≤ 127 * 128 ^ i := Nat.mul_le_mul_right _ (by omega)
          rw [Nat.pow_succ]; omega
        obtain ⟨m, e1, e2, e3, e4, e5⟩ := ih (i + 1) _ n k h (by omega) hlt
        have hm := e2 (by omega)
        have em : putL (m * 128 + b.toNat % 128) = b :: putL m := by
          rw [putL_hi (by omega)]
          congr 1
          · have : (m * 128 + b.toNat % 128) % 128 + 128 = b.toNat := by omega
            rw [this]; exact UInt8.ofNat_toNat
          · congr 1; omega
        refine ⟨m * 128 + b.toNat % 128, ?_, fun _ => by omega, e3, ?_, ?_⟩
        · rw [e1, Nat.pow_succ, Nat.add_mul, Nat.mul_assoc, Nat.mul_comm 128 (128 ^ i)]; omega
        · rw [em, e4]; simp; omega
        · rw [em]; simpa using e5
      · rw [if_neg h2] at h
        by_cases h3 : b.toNat = 0 ∧ 0 < i
        · rw [if_pos h3] at h; cases h
        · rw [if_neg h3] at h
          injection h with e1 e2
          subst e1 e2
          have e : putL b.toNat = [b] := by rw [putL_lo (by omega)]; congr 1; exact UInt8.ofNat_toNat
          refine ⟨b.toNat, rfl, fun h0 => by omega, ?_, by rw [e]; rfl, by rw [e]; rfl⟩
          by_cases h9 : i = 9
          · subst h9
            have hb1 : b.toNat ≤ 1 := by omega
            rw [pow9] at hacc ⊢
            omega
          · have h8 : 128 ^ i ≤ 128 ^ 8 := Nat.pow_le_pow_right (by omega) (by omega)
            have : b.toNat * 128 ^ i ≤ 127 * 128 ^ i := Nat.mul_le_mul_right _ (by omega)
            have h88 : 128 ^ 8 = 72057594037927936 := by decide
            omega
theorem getL_back {s : List UInt8} {n k : Nat} (h : getL s = .ok n k) : n < 18446744073709551616 ∧ k = (putL n).length ∧ s.take k = putL n := by
  obtain ⟨m, e1, _, e3, e4, e5⟩ := getFrom_back s 0 0 n k h (by omega) (by simp)
  obtain rfl : n = m := by simpa using e1
  rw [Nat.zero_add] at e4
  exact ⟨e3, e4, by rw [e4]; exact e5⟩
theorem getFrom_bad_ne (s : List UInt8) : ∀ (i acc : Nat) (e : Int), getFrom i acc s = .bad e → e = 20 ∨ e = 21 := by
  induction s with
  | nil => intro i acc e h; simp [getFrom] at h; omega
  | cons b r ih =>
    intro i acc e h
    rw [getFrom] at h
    split at h
    · injection h with h; omega
    · split at h
      · exact ih _ _ _ h
      · split at h
        · injection h with h; omega
        · cases h
theorem getL_bad_ne {s : List UInt8} {e : Int} (h : getL s = .bad e) : e ≠ 0 := by
  rcases getFrom_bad_ne s 0 0 e h with h | h <;> omega
theorem getL_len {s : List UInt8} {n k : Nat} (h : getL s = .ok n k) : 1 ≤ k ∧ k ≤ s.length := by
  obtain ⟨h1, h2, h3⟩ := getL_back h
  have := congrArg List.length h3
  rw [List.length_take, ← h2] at this
  have := (putL_ten h1).1
  omega
end Go.Proofs.Ytgdmhfdlijeogaa.tm
