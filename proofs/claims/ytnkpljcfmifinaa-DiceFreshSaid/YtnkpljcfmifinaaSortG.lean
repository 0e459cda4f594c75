/- The library's sort at numbers of kind uint64, seventh part: patterns broken. -/
import Derived.Test.YtnkpljcfmifinaaSortA
import Derived.Test.YtnkpljcfmifinaaShelf
import Derived.Lib.ItoaNum
namespace Go.Proofs.Ytnkpljcfmifinaa.sorts
open Go.RowKit Go.Proofs.Ytnkpljcfmifinaa.base Go.Proofs.Ytnkpljcfmifinaa.swaps

/-- block s holds one number of kind uint64 -/
def Rnd (w : World) (s : Nat) : Prop := ∃ k : Int, (Lit.int .u64 k).wf = true ∧ Blk w s 57 #[.int .u64 k]
theorem Rnd.drew {w : World} {s : Nat} (h : Rnd w s) : Rnd w.drew s := h

theorem rnd_put {w v : World} {s : Nat} {k0 k y : Int} (hk : Blk w s 57 #[.int .u64 k0]) (hg : v.grownBy w (some s)) :
    ∃ x : Int, Blk (w.setCell ⟨s, 0, none⟩ (.int .u64 (bits BinOp.xor IntKind.u64 k y))).drew s 57 #[.int .u64 x] ∧ (Lit.int .u64 x).wf = true ∧
      v.grownBy (w.setCell ⟨s, 0, none⟩ (.int .u64 (bits BinOp.xor IntKind.u64 k y))).drew (some s) :=
  ⟨_, (hk.put 0 _).drew, wf_bits _ _ _ _, grown_drew (grown_trans hg (grown_set _ _ _ _)) 1⟩

set_option maxHeartbeats 1000000 in
set_option maxRecDepth 100000 in
theorem rnd_ok (s : Nat) (w : World) (hs : Rnd w s) :
    Calls Try.prog 33 #[.pointer (some ⟨s, 0, none⟩)] w fun e w' => ∃ x : Nat, e = .returned (.int .u64 (x : Int)) ∧ x < 18446744073709551616 ∧ Rnd w' s ∧ w.grownBy w' (some s) := by
  obtain ⟨k, h0, hk⟩ := hs
  have hck : w.cell? ⟨s, 0, none⟩ = some (.int .u64 k) := by rw [hk.cell]; rfl
  have hfk : w.frozen? ⟨s, 0, none⟩ = false := hk.frozen 0
  go_enter Try.func33, Try.ntmps33
  go_wp2
  go_region
  generalize hW1 : (w.setCell ⟨s, 0, none⟩ _).drew = W1
  obtain ⟨k1, hk1, hw1, hg1⟩ : ∃ x : Int, Blk W1 s 57 #[.int .u64 x] ∧ (Lit.int .u64 x).wf = true ∧ w.grownBy W1 (some s) := by
    rw [← hW1]; exact rnd_put hk (World.grownBy.refl _ _)
  clear hW1 hck hfk hk
  have hck : W1.cell? ⟨s, 0, none⟩ = some (.int .u64 k1) := by rw [hk1.cell]; rfl
  have hfk : W1.frozen? ⟨s, 0, none⟩ = false := hk1.frozen 0
  go_wp2
  go_region
  generalize hW2 : (W1.setCell ⟨s, 0, none⟩ _).drew = W2
  obtain ⟨k2, hk2, hw2, hg2⟩ : ∃ x : Int, Blk W2 s 57 #[.int .u64 x] ∧ (Lit.int .u64 x).wf = true ∧ w.grownBy W2 (some s) := by
    rw [← hW2]; exact rnd_put hk1 hg1
  clear hW2 hck hfk hk1 hg1
  have hck : W2.cell? ⟨s, 0, none⟩ = some (.int .u64 k2) := by rw [hk2.cell]; rfl
  have hfk : W2.frozen? ⟨s, 0, none⟩ = false := hk2.frozen 0
  go_wp2
  go_region
  generalize hW3 : (W2.setCell ⟨s, 0, none⟩ _).drew = W3
  obtain ⟨k3, hk3, hw3, hg3⟩ : ∃ x : Int, Blk W3 s 57 #[.int .u64 x] ∧ (Lit.int .u64 x).wf = true ∧ w.grownBy W3 (some s) := by
    rw [← hW3]; exact rnd_put hk2 hg2
  clear hW3 hck hfk hk2 hg2
  have hck : W3.cell? ⟨s, 0, none⟩ = some (.int .u64 k3) := by rw [hk3.cell]; rfl
  go_wp2
  go_ret
  have hb := bounds_u64 hw3
  obtain ⟨x, hx⟩ := Int.eq_ofNat_of_zero_le hb.1
  refine ⟨x, by rw [← hx]; rfl, by omega, ⟨k3, hw3, hk3⟩, hg3⟩

theorem power_ok (m : Nat) (w : World) (hm : 1 ≤ m) (hn : m ≤ 100000000) :
    Calls Try.prog 32 #[.int .i64 m] w fun e w' => ∃ M : Nat, e = .returned (.int .u64 ((M + 1 : Nat) : Int)) ∧ M + 1 ≤ 2 * m ∧ w = w' := by
  obtain ⟨b1, b2, b3⟩ := Lib.bitLenAux_bounds 64 m (by omega) (by omega)
  have b4 : Lib.bitLen m ≤ 27 := Lib.bitLen_le m 27 (by omega) (by omega)
  obtain ⟨L, hL⟩ : ∃ L, L = Lib.bitLen m := ⟨_, rfl⟩
  have hc := Try.bits_Len (m : Int) w (by omega) (by omega)
  rw [Int.toNat_natCast, ← hL] at hc
  change 1 ≤ Lib.bitLen m at b1
  change 2 ^ (Lib.bitLen m - 1) ≤ m at b2
  rw [← hL] at b1 b2 b4
  clear hL b3
  have hp : 2 ^ L = 2 * 2 ^ (L - 1) := by
    obtain ⟨l, rfl⟩ : ∃ l, L = l + 1 := ⟨L - 1, by omega⟩
    rw [Nat.pow_succ, Nat.add_sub_cancel]; omega
  have hpos : 0 < 2 ^ (L - 1) := Nat.two_pow_pos _
  have hz : IntKind.u64.wrap (2 ^ L) = ((2 ^ L - 1 + 1 : Nat) : Int) := by
    rw [show ((2 : Int) ^ L) = ((2 ^ L : Nat) : Int) by norm_cast, IntKind.wrap_u64]
    omega
  have HZ : Hid (IntKind.u64.wrap (2 ^ L) = ((2 ^ L - 1 + 1 : Nat) : Int)) := hz
  have H2 : Hid (2 ^ L - 1 + 1 ≤ 2 * m) := (show 2 ^ L - 1 + 1 ≤ 2 * m by omega)
  clear hz hp hpos b2
  go_enter Try.func32, Try.ntmps32
  go_wp2_with (go_at_call 19; ((with_reducible refine hc.mono ?_); rintro e w1 ⟨rfl, rfl⟩))
  go_ret
  exact ⟨2 ^ L - 1, by rw [← HZ.out]; rfl, H2.out, rfl⟩

theorem and_le (x M : Nat) (hx : x < 18446744073709551616) (hM : M < 18446744073709551616) : ∃ y : Nat, bits BinOp.and IntKind.u64 (x : Int) (M : Int) = (y : Int) ∧ y ≤ M :=
  ⟨x &&& M, bits_and_u64_nat x M hx hM, Nat.and_le_right⟩

set_option maxHeartbeats 2000000 in
set_option maxRecDepth 100000 in
theorem break_ok (g n c a b : Nat) (d0 : Nat → Int) (w : World) (hrow : Row w g n d0) (hab : a + 8 ≤ b) (hbn : b ≤ n) (hn : n ≤ 100000000) :
    Calls Try.prog 22 #[.slice (some ⟨g, 0, none⟩) n c, .int .i64 a, .int .i64 b] w fun e w' =>
      e = .returned (.tuple #[]) ∧ ∃ d, Row w' g n d ∧ RP a b d0 d ∧ w.grownBy w' (some g) := by
  obtain ⟨l, hl⟩ : ∃ l : Nat, (b : Int) - (a : Int) = (l : Int) := ⟨b - a, by omega⟩
  obtain ⟨q, hq⟩ : ∃ q : Nat, (l : Int) / 4 = (q : Int) := ⟨l / 4, by omega⟩
  have hl8 : 8 ≤ l := by omega
  have hq1 : 4 * q ≤ l := by omega
  have hq2 : l < 4 * q + 4 := by omega
  have hbl : a + l ≤ b := by omega
  have hp := power_ok l (w.alloc (.cells #[.int .u64 l] 57)) (by omega) (by omega)
  have hlt := hrow.lt
  have hr0 : Row (w.alloc (.cells #[.int .u64 l] 57)) g n d0 := hrow.keep (Below.heap_alloc w _ g hrow.lt)
  have hs0 : Rnd (w.alloc (.cells #[.int .u64 l] 57)) w.heap.size := ⟨l, by simp [Lit.wf, IntKind.min, IntKind.max, IntKind.signed, IntKind.bits]; omega, Blk.new w _ _⟩
  go_enter Try.func22, Try.ntmps22
  go_wp2_with (go_at_call 32; ((with_reducible refine hp.mono ?_); rintro e w1 ⟨M, rfl, hM, rfl⟩))
  go_loopw [9] (fun vi wr => ∃ (k : Nat) (d : Nat → Int), vi = .int .i64 k ∧ a + q * 2 ≤ k + 1 ∧ k ≤ a + q * 2 + 2 ∧ Row wr g n d ∧ RP a b d0 d ∧ Rnd wr w.heap.size ∧ w.grownBy wr (some g)) (fun vi _ => a + q * 2 + 2 - (intOf vi).toNat)
  case atStart => exact ⟨a + q * 2 - 1, d0, by go_num, by omega, by omega, hr0, .refl, hs0, World.grownBy_alloc _ _ _⟩
  case round =>
    obtain ⟨k, d, rfl, hk1, hk2, hr, hrp, hrnd, hg⟩ := hrel
    clear hr0 hs0 hp
    by_cases hin : k ≤ a + q * 2 + 1
    · go_wp2_with fail
      refine (rnd_ok w.heap.size wr hrnd).mono ?_
      rintro e w2 ⟨x, rfl, hx, hrnd2, hg2⟩
      obtain ⟨y, hand, hyM⟩ := and_le x M hx (by omega)
      have hr2 : Row w2 g n d := hr.keep (hg2.block g hr.lt (by simp; omega))
      have hg2' : w.grownBy w2 (some g) := grown_new hg hg2 (Nat.le_refl _)
      clear hr hg hg2 hrnd
      by_cases hyl : y < l
      · have hck : w2.cell? ⟨g, k, none⟩ = some (.int .u64 (d k)) := hr2.cell (by omega)
        have hcy : w2.cell? ⟨g, a + y, none⟩ = some (.int .u64 (d (a + y))) := hr2.cell (by omega)
        have hfk : w2.frozen? ⟨g, k, none⟩ = false := hr2.frozen _
        have hfy : w2.frozen? ⟨g, a + y, none⟩ = false := hr2.frozen _
        obtain ⟨v', hy'⟩ := cell?_setCell_some (w := w2) (p := ⟨g, k, none⟩) (x := .int .u64 (d (a + y))) (q := ⟨g, a + y, none⟩) hcy
        have v0 : IntKind.i64.wrap ((a : Int) + (y : Int)) = (a : Int) + (y : Int) := IntWalk.i64_in _ (by omega)
        go_wp2_with fail
        go_region
        go_wp2_with fail
        go_roundw
        case rel => exact ⟨k + 1, swp d k (a + y), by go_num, by omega, by omega, (Row.swap hr2 k (a + y)).drew, hrp.trans (.one _ ⟨by omega, by omega⟩ ⟨by omega, by omega⟩), ⟨hrnd2.choose, hrnd2.choose_spec.1, ((hrnd2.choose_spec.2.far (by simp; omega) _).far (by simp; omega) _).drew⟩, grown_drew (grown_trans (grown_trans hg2' (grown_set _ _ _ _)) (grown_set _ _ _ _)) 1⟩
        case measure => simp [intOf]; omega
      · obtain ⟨z, hz⟩ : ∃ z : Nat, (y : Int) - (l : Int) = (z : Int) := ⟨y - l, by omega⟩
        have hzl : z < l := by omega
        have hck : w2.cell? ⟨g, k, none⟩ = some (.int .u64 (d k)) := hr2.cell (by omega)
        have hcy : w2.cell? ⟨g, a + z, none⟩ = some (.int .u64 (d (a + z))) := hr2.cell (by omega)
        have hfk : w2.frozen? ⟨g, k, none⟩ = false := hr2.frozen _
        have hfy : w2.frozen? ⟨g, a + z, none⟩ = false := hr2.frozen _
        obtain ⟨v', hy'⟩ := cell?_setCell_some (w := w2) (p := ⟨g, k, none⟩) (x := .int .u64 (d (a + z))) (q := ⟨g, a + z, none⟩) hcy
        have v0 : IntKind.i64.wrap ((a : Int) + (z : Int)) = (a : Int) + (z : Int) := IntWalk.i64_in _ (by omega)
        go_wp2_with fail
        go_region
        go_wp2_with fail
        go_roundw
        case rel => exact ⟨k + 1, swp d k (a + z), by go_num, by omega, by omega, (Row.swap hr2 k (a + z)).drew, hrp.trans (.one _ ⟨by omega, by omega⟩ ⟨by omega, by omega⟩), ⟨hrnd2.choose, hrnd2.choose_spec.1, ((hrnd2.choose_spec.2.far (by simp; omega) _).far (by simp; omega) _).drew⟩, grown_drew (grown_trans (grown_trans hg2' (grown_set _ _ _ _)) (grown_set _ _ _ _)) 1⟩
        case measure => simp [intOf]; omega
    · go_wp2
      first | go_end0 | refine bodyPost_ret (results_none rfl _ _ _) rfl ?_
      exact ⟨rfl, d, hr, hrp, hg⟩
end Go.Proofs.Ytnkpljcfmifinaa.sorts
