/- Numbers in sevens: what PutNum and GetNum do, the program's and the document's own. -/
import Derived.Test.YtgdmhfdlijeogaaRows
import Derived.Test.YtgdmhfdlijeogaaBase
import Derived.Test.YtgdmhfdlijeogaaTmLaw
import Derived.Outline
import Derived.Lib.Hide
import Derived.Laws.BitsAllLaws
namespace Go.Proofs.Ytgdmhfdlijeogaa.sevens
set_option linter.unusedVariables false
set_option linter.unusedSimpArgs false
open Go.RowKit Go.Proofs.Ytgdmhfdlijeogaa.base Go.Proofs.Ytgdmhfdlijeogaa.tm

def numVal : Num → Value
  | .bad e => .tuple #[.int .u64 0, .int .i64 0, .int .i64 e]
  | .ok n k => .tuple #[.int .u64 n, .int .i64 k, .int .i64 0]

theorem drop_cons (s : ByteArray) (k : Nat) (h : k < s.size) : s.data.toList.drop k = s[k] :: s.data.toList.drop (k + 1) := by
  rw [List.drop_eq_getElem_cons (by simpa using h)]; rfl

theorem pow7 (k : Nat) : (2 : Int) ^ (7 * k) = ((128 ^ k : Nat) : Int) := by
  rw [Int.pow_mul]; simp
theorem join_val (acc b k : Nat) (hacc : acc < 128 ^ k) (hk : k ≤ 9) (hb : b < 256) (h9 : k = 9 → b ≤ 1) :
    bits BinOp.or IntKind.u64 (acc : Int) (IntKind.u64.wrap (IntKind.u64.wrap (bits BinOp.andNot IntKind.u8 (b : Int) 128) * 2 ^ (7 * k))) = ((acc + b % 128 * 128 ^ k : Nat) : Int) := by
  have h1 : bits BinOp.andNot IntKind.u8 (b : Int) 128 = ((b % 128 : Nat) : Int) := by
    have := u8_andNot_nat b 128 hb (by omega)
    rw [show ((128 : Int)) = ((128 : Nat) : Int) from rfl, this, nat_mask7]
  have hp : 0 < 128 ^ k := Nat.pow_pos (by omega)
  have hlt : acc + b % 128 * 128 ^ k < 18446744073709551616 := by
    by_cases h : k = 9
    · have := h9 h
      subst h
      rw [pow9] at hacc ⊢
      omega
    · have h8 : 128 ^ k ≤ 128 ^ 8 := Nat.pow_le_pow_right (by omega) (by omega)
      have : b % 128 * 128 ^ k ≤ 127 * 128 ^ k := Nat.mul_le_mul_right _ (by omega)
      have h88 : 128 ^ 8 = 72057594037927936 := by decide
      omega
  rw [h1, pow7, IntKind.wrap_u64, IntKind.wrap_u64]
  have e1 : ((b % 128 : Nat) : Int) % 18446744073709551616 = ((b % 128 : Nat) : Int) := by omega
  rw [e1, ← Int.natCast_mul]
  have e2 : ((b % 128 * 128 ^ k : Nat) : Int) % 18446744073709551616 = ((b % 128 * 128 ^ k : Nat) : Int) := by omega
  rw [e2, u64_or_nat _ _ (by omega) (by omega), Nat.or_comm, nat_join (7 * k) _ _ ?_ ?_, Nat.add_comm]
  · rw [Nat.pow_mul]; exact Nat.mul_mod_left _ _
  · rw [Nat.pow_mul]; exact hacc

theorem three (a b c a' b' c' : Value) (h : a = a') (h' : b = b') (h'' : c = c') : Ending.returned (.tuple #[a, b, c]) = .returned (.tuple #[a', b', c']) := by rw [h, h', h'']

theorem num {k : IntKind} {a b : Int} (h : a = b) : Value.int k a = .int k b := by rw [h]
theorem p63 : (9223372036854775808 : Int) = 2 ^ (7 * 9) := by decide

/-- what the loop's head knows -/
def Head (s : ByteArray) (n i : Value) : Prop :=
  ∃ k acc : Nat, k ≤ s.size ∧ k ≤ 9 ∧ acc < 128 ^ k ∧ n = .int .u64 acc ∧ i = .int .i64 k ∧ getL s.data.toList = getFrom k acc (s.data.toList.drop k)

theorem head_next {s : ByteArray} {k acc : Nat} (h : k < s.size) (hk : k ≤ 9) (hacc : acc < 128 ^ k) (hg : getL s.data.toList = getFrom k acc (s.data.toList.drop k)) (h9 : ¬ k = 9) (h128 : 128 ≤ s[k].toNat) :
    Head s (.int .u64 ((acc + s[k].toNat % 128 * 128 ^ k : Nat) : Int)) (.int .i64 ((k : Int) + 1)) := by
  refine ⟨k + 1, _, h, by omega, ?_, rfl, by simp, ?_⟩
  · have : s[k].toNat % 128 * 128 ^ k ≤ 127 * 128 ^ k := Nat.mul_le_mul_right _ (by omega)
    rw [Nat.pow_succ]; omega
  · rw [hg, drop_cons s k h, getFrom, if_neg (by omega), if_pos h128]
theorem head_bad9 {s : ByteArray} {k acc : Nat} (h : k < s.size) (hg : getL s.data.toList = getFrom k acc (s.data.toList.drop k)) (h9 : k = 9) (h1 : 1 < s[k].toNat) : getL s.data.toList = .bad 21 := by
  rw [hg, drop_cons s k h, getFrom, if_pos ⟨h9, h1⟩]
theorem head_bad0 {s : ByteArray} {k acc : Nat} (h : k < s.size) (hg : getL s.data.toList = getFrom k acc (s.data.toList.drop k)) (h0 : s[k].toNat = 0) (hk : 0 < k) : getL s.data.toList = .bad 21 := by
  rw [hg, drop_cons s k h, getFrom, if_neg (by omega), if_neg (by omega), if_pos ⟨h0, hk⟩]
theorem head_ok {s : ByteArray} {k acc : Nat} (h : k < s.size) (hg : getL s.data.toList = getFrom k acc (s.data.toList.drop k)) (h9 : k = 9 → s[k].toNat ≤ 1) (h0 : ¬ (s[k].toNat = 0 ∧ 0 < k)) (hlt : s[k].toNat < 128) :
    getL s.data.toList = .ok (acc + s[k].toNat % 128 * 128 ^ k) (k + 1) := by
  rw [hg, drop_cons s k h, getFrom, if_neg (by intro ⟨a, b⟩; have := h9 a; omega), if_neg (by omega), if_neg h0, Nat.mod_eq_of_lt hlt]
theorem head_short {s : ByteArray} {k acc : Nat} (h : ¬ k < s.size) (hg : getL s.data.toList = getFrom k acc (s.data.toList.drop k)) : getL s.data.toList = .bad 20 := by
  rw [hg, List.drop_of_length_le (by simp; omega), getFrom]

set_option maxRecDepth 100000 in
set_option maxHeartbeats 400000 in
theorem getNum_any (s : ByteArray) (w : World) (hs : s.size ≤ maxLen) :
    Calls Try.prog 51 #[.string s] w fun e w' => e = .returned (numVal (getL s.data.toList)) ∧ w = w' := by
  unfold maxLen at hs
  go_enter Try.func51, Try.ntmps51
  go_wp2
  go_loop [5, 10] (fun n i => Head s n i) (fun _ i => s.size - (intOf i).toNat)
  case atStart => exact ⟨0, 0, Nat.zero_le _, by omega, by simp, rfl, rfl, rfl⟩
  case round =>
    obtain ⟨k, acc, hk, hk9, hacc, rfl, rfl, hg⟩ := hrel
    have HG := Lib.hid hg
    clear hg
    by_cases hlt : k < s.size
    · have hb := byte_lt s[k]
      go_wp2_with fail
      · go_ret3
        exact ⟨by rw [head_bad9 hlt HG.out (by omega) (by omega)]; rfl, rfl⟩
      · go_ret3
        exact ⟨by rw [head_bad0 hlt HG.out (by omega) (by omega)]; rfl, rfl⟩
      · go_ret3
        obtain rfl : k = 9 := by omega
        exact ⟨by rw [head_ok hlt HG.out (by omega) (by omega) (by omega)]; exact three _ _ _ _ _ _ (num (by rw [p63]; exact join_val acc _ 9 hacc hk9 hb (by omega))) rfl rfl, rfl⟩
      · rw [join_val acc _ k hacc hk9 hb (by omega)]
        exact ⟨head_next hlt hk9 hacc HG.out (by omega) (by omega), by simp [intOf]; omega⟩
      · go_ret3
        exact ⟨by rw [head_bad0 hlt HG.out (by omega) (by omega)]; rfl, rfl⟩
      · go_ret3
        have h0 : s[k].toNat = 0 := by assumption
        exact ⟨by rw [head_ok hlt HG.out (by omega) (by omega) (by omega)]; rw [h0]; exact three _ _ _ _ _ _ (num (join_val acc 0 k hacc hk9 (by omega) (by omega))) rfl rfl, rfl⟩
      · go_ret3
        exact ⟨by rw [head_ok hlt HG.out (by omega) (by omega) (by omega)]; exact three _ _ _ _ _ _ (num (join_val acc _ k hacc hk9 hb (by omega))) rfl rfl, rfl⟩
    · go_wp2
      go_ret3
      exact ⟨by rw [head_short hlt HG.out]; rfl, rfl⟩
end Go.Proofs.Ytgdmhfdlijeogaa.sevens
