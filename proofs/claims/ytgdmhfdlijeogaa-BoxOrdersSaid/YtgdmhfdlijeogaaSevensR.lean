/- Numbers in sevens: what the document's own GetNum does. -/
import Derived.Test.YtgdmhfdlijeogaaSevens
namespace Go.Proofs.Ytgdmhfdlijeogaa.sevens
set_option linter.unusedVariables false
set_option linter.unusedSimpArgs false
open Go.RowKit Go.Proofs.Ytgdmhfdlijeogaa.base Go.Proofs.Ytgdmhfdlijeogaa.tm

theorem mul_val (acc b k u : Nat) (hacc : acc < 128 ^ k) (hk : k ≤ 9) (hb : b < 256) (h9 : k = 9 → b ≤ 1) (hu : u = 128 ^ k) :
    IntKind.u64.wrap ((acc : Int) + IntKind.u64.wrap ((b : Int) % 128 * (u : Int))) = ((acc + b % 128 * 128 ^ k : Nat) : Int) := by
  subst hu
  have hp : 0 < 128 ^ k := Nat.pow_pos (by omega)
  have hlt : acc + b % 128 * 128 ^ k < 18446744073709551616 := by
    by_cases h : k = 9
    · have := h9 h
      subst h
      rw [pow9] at hacc ⊢
      omega
    · have h8 : 128 ^ k ≤ 128 ^ 8 := Nat.pow_le_pow_right (by omega) (by omega)
      have : b % 128 * 128 ^ k ≤ 127 * 128 ^ k := Nat.mul_le_mul_right _ (by omega)
      have h88 : 128 ^ 8 = 72057594037927936 := by decide
      omega
  rw [show (b : Int) % 128 = ((b % 128 : Nat) : Int) from rfl, ← Int.natCast_mul, IntKind.wrap_u64, IntKind.wrap_u64]
  omega

/-- what the loop's head knows -/
def HeadR (s : ByteArray) (n x i : Value) : Prop :=
  ∃ k acc u : Nat, k ≤ s.size ∧ k ≤ 9 ∧ acc < 128 ^ k ∧ Hid (u = 128 ^ k) ∧ u ≤ 9223372036854775808 ∧ n = .int .u64 acc ∧ x = .int .u64 u ∧ i = .int .i64 k ∧ Hid (getL s.data.toList = getFrom k acc (s.data.toList.drop k))

theorem headR_next {s : ByteArray} {k acc u : Nat} (h : k < s.size) (hk : k ≤ 9) (hacc : acc < 128 ^ k) (hu : u = 128 ^ k) (hg : getL s.data.toList = getFrom k acc (s.data.toList.drop k)) (h9 : ¬ k = 9) (h128 : 128 ≤ s[k].toNat) :
    HeadR s (.int .u64 ((acc + s[k].toNat % 128 * 128 ^ k : Nat) : Int)) (.int .u64 (IntKind.u64.wrap ((u : Int) * 128))) (.int .i64 ((k : Int) + 1)) := by
  obtain ⟨k', acc', h1, h2, h3, h4, h5, h6⟩ := head_next h hk hacc hg h9 h128
  injection h4 with _ h4
  injection h5 with _ h5
  have e1 : k' = k + 1 := by omega
  have e2 : acc' = acc + s[k].toNat % 128 * 128 ^ k := by omega
  have h8 : 128 ^ k ≤ 128 ^ 8 := Nat.pow_le_pow_right (by omega) (by omega)
  have h88 : 128 ^ 8 = 72057594037927936 := by decide
  subst e1 e2
  refine ⟨k + 1, _, 128 ^ (k + 1), h1, h2, h3, rfl, pow_le9 h2, rfl, ?_, rfl, h6⟩
  rw [hu, IntKind.wrap_u64, Nat.pow_succ]
  congr 1
  omega

set_option maxRecDepth 100000 in
set_option maxHeartbeats 400000 in
theorem refGetNum_any (s : ByteArray) (w : World) (hs : s.size ≤ maxLen) :
    Calls Try.prog 48 #[.string s] w fun e w' => e = .returned (numVal (getL s.data.toList)) ∧ w = w' := by
  unfold maxLen at hs
  go_enter Try.func48, Try.ntmps48
  go_wp2
  go_loop [5, 6, 7] (fun n x i => HeadR s n x i) (fun _ _ i => s.size - (intOf i).toNat)
  case atStart => exact ⟨0, 0, 1, Nat.zero_le _, by omega, by simp, rfl, by omega, rfl, rfl, rfl, rfl⟩
  case round =>
    obtain ⟨k, acc, u, hk, hk9, hacc, hu, hub, rfl, rfl, rfl, HG⟩ := hrel
    by_cases hlt : k < s.size
    · have hb := byte_lt s[k]
      go_wp2_with fail
      · go_ret3
        obtain rfl : k = 9 := by omega
        exact ⟨by rw [head_bad9 hlt HG.out (by omega) (by omega)]; rfl, rfl⟩
      · go_ret3
        obtain rfl : k = 9 := by omega
        exact ⟨by rw [head_bad0 hlt HG.out (by omega) (by omega)]; rfl, rfl⟩
      · go_ret3
        obtain rfl : k = 9 := by omega
        exact ⟨by rw [head_ok hlt HG.out (by omega) (by omega) (by omega)]; exact three _ _ _ _ _ _ (num (mul_val acc _ 9 u hacc hk9 hb (by omega) hu.out)) rfl rfl, rfl⟩
      · go_ret3
        exact ⟨by rw [head_bad0 hlt HG.out (by omega) (by omega)]; rfl, rfl⟩
      · go_ret3
        have h0 : s[k].toNat = 0 := by assumption
        exact ⟨by rw [head_ok hlt HG.out (by omega) (by omega) (by omega)]; rw [h0]; exact three _ _ _ _ _ _ (num (by have := mul_val acc 0 k u hacc hk9 (by omega) (by omega) hu.out; simpa using this)) rfl rfl, rfl⟩
      · go_ret3
        exact ⟨by rw [head_ok hlt HG.out (by omega) (by omega) (by omega)]; exact three _ _ _ _ _ _ (num (mul_val acc _ k u hacc hk9 hb (by omega) hu.out)) rfl rfl, rfl⟩
      · rw [mul_val acc _ k u hacc hk9 hb (by omega) hu.out]
        exact ⟨headR_next hlt hk9 hacc hu.out HG.out (by omega) (by omega), by simp [intOf]; omega⟩
    · go_wp2
      go_ret3
      exact ⟨by rw [head_short hlt HG.out]; rfl, rfl⟩
end Go.Proofs.Ytgdmhfdlijeogaa.sevens
