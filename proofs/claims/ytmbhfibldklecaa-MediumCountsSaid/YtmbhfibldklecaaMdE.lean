/- pick and awake of medium's laws. -/
import Derived.Test.YtmbhfibldklecaaMdD
import Derived.Test.YtmbhfibldklecaaMdO


namespace Go.Proofs.Ytmbhfibldklecaa.mediums
set_option linter.unusedVariables false
set_option linter.unusedSimpArgs false
open Go.RowKit Go.Proofs.Ytmbhfibldklecaa.base Go.Proofs.Ytmbhfibldklecaa.trees Go.Proofs.Ytmbhfibldklecaa.powers Go.Lib

def pkM (c : Int) (n : Nat) : Nat := (if Int.tmod c n < 0 then Int.tmod c n + n else Int.tmod c n).toNat
theorem pkM_lt (c : Int) (n : Nat) (hn : 0 < n) : pkM c n < n := by
  have l2 : Int.tmod c n < (n : Int) := Int.tmod_lt_of_pos c (by omega)
  unfold pkM
  split <;> omega

set_option maxRecDepth 100000 in
set_option maxHeartbeats 4000000 in
theorem pickM_ok (c : Int) (n : Nat) (hn : 0 < n) (hn3 : n ≤ 3000) (w : World) :
    Calls Try.prog 27 #[.int .i64 c, .int .i64 (n : Int)] w fun e w' => e = .returned (.int .i64 (pkM c n : Int)) ∧ w' = w := by
  have hz : (n : Int) ≠ 0 := by omega
  have l1 : -(n : Int) < Int.tmod c n := Int.lt_tmod_of_pos c (by omega)
  have l2 : Int.tmod c n < (n : Int) := Int.tmod_lt_of_pos c (by omega)
  by_cases h : Int.tmod c n < 0
  · have hm := powers.lay (show (pkM c n : Int) = Int.tmod c n + n by unfold pkM; rw [if_pos h]; omega)
    go_enter Try.func27, Try.ntmps27
    go_wp2_with fail
    go_ret
    exact ⟨by rw [hm.out]; rfl, rfl⟩
  · have hm := powers.lay (show (pkM c n : Int) = Int.tmod c n by unfold pkM; rw [if_neg h]; omega)
    go_enter Try.func27, Try.ntmps27
    go_wp2_with fail
    go_ret
    exact ⟨by rw [hm.out]; rfl, rfl⟩

/-- how many bytes are written in a segment, as Used says -/
def usedI (m : MS) (sg : Int) : Int := if 0 ≤ sg ∧ sg < (m.segs.length : Int) then ((m.at_ sg.toNat).size : Int) else 0
section
variable {w : World} {S : Nat → Prop} {p g : Nat} {m : MS} {sb : Nat} {vs : List Value} {vp : Value} {L W : Int}

theorem used_any (h : Md w S p g m) (sg : Int) : Calls Try.prog 30 #[.pointer (some ⟨g, 0, none⟩), .int .i64 sg] w fun e w' => e = .returned (.int .i64 (usedI m sg)) ∧ w' = w := by
  obtain ⟨sb, vs, vp, h⟩ := h
  have hl := h.len
  by_cases hj : 0 ≤ sg ∧ sg < (vs.length : Int)
  · obtain ⟨j, rfl⟩ := Int.eq_ofNat_of_zero_le hj.1
    refine (used_yes h j (by omega)).mono ?_
    rintro e w' ⟨rfl, rfl⟩
    refine ⟨?_, rfl⟩
    unfold usedI
    rw [if_pos (by omega), Int.toNat_natCast]
  · refine (used_no h sg hj).mono ?_
    rintro e w' ⟨rfl, rfl⟩
    refine ⟨?_, rfl⟩
    unfold usedI
    rw [if_neg (by omega)]
theorem used_nat (h : Md w S p g m) (j : Nat) (hj : j < m.segs.length) : Calls Try.prog 30 #[.pointer (some ⟨g, 0, none⟩), .int .i64 (j : Int)] w fun e w' => e = .returned (.int .i64 ((m.at_ j).size : Int)) ∧ w' = w := by
  obtain ⟨sb, vs, vp, h⟩ := h
  have hl := h.len
  exact used_yes h j (by omega)
theorem read_all (h : Md w S p g m) (j : Nat) (hj : j < m.segs.length) : Calls Try.prog 36 #[.pointer (some ⟨g, 0, none⟩), .int .i64 (j : Int), .int .i64 0, .int .i64 ((m.at_ j).size : Int)] w fun e w' => e = .returned (.tuple #[.string (m.at_ j), .int .i64 0]) ∧ w' = w := by
  obtain ⟨sb, vs, vp, h⟩ := h
  have hl := h.len
  refine (read_ok h j (by omega) 0 (m.at_ j).size (by omega)).mono ?_
  rintro e w' ⟨rfl, rfl⟩
  refine ⟨?_, rfl⟩
  have : (m.at_ j).extract 0 (0 + (m.at_ j).size) = m.at_ j := by rw [Nat.zero_add]; exact ByteArray.extract_zero_size
  rw [this]
theorem write_any (h : Md w S p g m) (hp : Blk w p 139 (PC L W)) (hI : In L) (sg o : Int) (b : ByteArray) (hl : (m.past.length + 1) * 32 ≤ 140737488355328) :
    Calls Try.prog 31 #[.pointer (some ⟨g, 0, none⟩), .int .i64 sg, .int .i64 o, .string b] w (WrPost S p g m L W sg o b w) := by
  obtain ⟨sb, vs, vp, h⟩ := h
  exact write_ok h hp hI sg o b hl
theorem count_any (h : Md w S p g m) : Calls Try.prog 35 #[.pointer (some ⟨g, 0, none⟩)] w fun e w' => e = .returned (.int .i64 (m.past.length : Int)) ∧ w' = w := by
  obtain ⟨sb, vs, vp, h⟩ := h
  exact count_ok h
theorem Md.ptr (h : Md w S p g m) : w.cell? ⟨g, 0, none⟩ = some (.pointer (some ⟨p, 0, none⟩)) := by
  obtain ⟨sb, vs, vp, h⟩ := h
  have x0 := h.head.cell 0
  simpa using x0
theorem Md.pasts (h : Md w S p g m) : m.past.length * 32 ≤ 140737488355328 := by
  obtain ⟨sb, vs, vp, h⟩ := h
  exact h.bnd.2.2.2
theorem Md.seglen (h : Md w S p g m) : 1 ≤ m.segs.length ∧ m.segs.length ≤ 4096 := by
  obtain ⟨sb, vs, vp, h⟩ := h
  have := h.len; have := h.bnd.2.1; omega
theorem Md.at_le (h : Md w S p g m) (j : Nat) : (m.at_ j).size ≤ m.size := by
  obtain ⟨sb, vs, vp, h⟩ := h
  exact h.bnd.2.2.1 j
end
def abc : ByteArray := ⟨#[97, 98, 99]⟩
def zee : ByteArray := ⟨#[90]⟩
def aM1 : MS := putM (newM 2 4) 0 0 abc
def aM2 : MS := putM aM1 0 1 zee
theorem aw1 : refE (newM 2 4) 0 0 abc = 0 := by decide +kernel
theorem aw2 : refE aM1 0 1 zee = 0 := by decide +kernel
theorem aw3 : aM2.at_ 0 = ⟨#[97, 90]⟩ := by decide +kernel
theorem aw4 : wrE (newM 2 4) (-1) 0 0 abc = 0 := by decide +kernel
theorem aw5 : wrE aM1 (-1) 0 1 zee = 0 := by decide +kernel

set_option maxRecDepth 100000 in
set_option maxHeartbeats 4000000 in
theorem awakeM_ok (w : World) : Calls Try.prog 26 #[] w fun e w' => e = .returned (.bool true) ∧ Below w.heap.size w w' := by
  have c1 := powers.new_ok w
  go_enter Try.func26, Try.ntmps26
  go_wp2_with fail
  refine c1.mono ?_
  rintro e w1 ⟨rfl, k1, b1, z1⟩
  have c2 := mnew_ok w.heap.size 2 4 (by omega) (by omega) w1 (by omega)
  rw [show ((2 : Nat) : Int) = 2 from rfl, show ((4 : Nat) : Int) = 4 from rfl] at c2
  clear c1
  go_wp2_with fail
  refine c2.mono ?_
  rintro e w2 ⟨g, rfl, m2, b2⟩
  have k2 := k1.below b2 k1.lt
  have hb2 := b1.trans (b2.mono b1.size)
  have c3 := write_any m2 k2 (by unfold In; omega) 0 0 abc (by simp [newM])
  clear c2
  change Calls _ _ #[_, _, _, .string ⟨#[97, 98, 99]⟩] _ _ at c3
  go_wp2_with fail
  refine c3.mono ?_
  rintro e w3 ⟨rfl, S3, hs3, m3, k3, kp3⟩
  rw [aw1, if_pos rfl, show spL (-1) = -1 by decide, show wSp (-1) 0 = 1 by decide +kernel] at k3
  rw [if_pos ⟨aw1, by decide⟩] at m3
  change Md _ _ _ _ aM1 at m3
  have c4 := write_any m3 k3 (by unfold In; omega) 0 1 zee (by decide +kernel)
  clear c3
  change Calls _ _ #[_, _, _, .string ⟨#[90]⟩] _ _ at c4
  rw [aw4]
  go_wp2_with fail
  refine c4.mono ?_
  rintro e w4 ⟨rfl, S4, hs4, m4, k4, kp4⟩
  rw [aw2, if_pos rfl, show spL (-1) = -1 by decide, show wSp (-1) 1 = 2 by decide +kernel] at k4
  rw [if_pos ⟨aw2, by decide⟩] at m4
  change Md _ _ _ _ aM2 at m4
  rw [aw5]
  have kB : Below w.heap.size w w4 := by
    have l1 := b1.size
    have l2 := b2.size
    have l3 := kp3.size
    refine (hb2.trans (kp3.below (B := w.heap.size) (fun k hk => ?_) (by omega))).trans (kp4.below (B := w.heap.size) (fun k hk => ?_) (by omega))
    · rcases hk with h | h <;> omega
    · rcases hk with h | h
      · rcases hs3 k h with h | h <;> omega
      · omega
  have c5 := read_all m4 0 (by decide +kernel)
  rw [aw3] at c5
  have c6 := used_nat m4 0 (by decide +kernel)
  rw [aw3] at c6
  change Calls _ _ #[_, .int .i64 0, .int .i64 0, .int .i64 2] _ _ at c5
  change Calls _ _ #[_, .int .i64 0] _ (fun e w' => e = .returned (.int .i64 2) ∧ w' = w4) at c6
  obtain ⟨sb, vs, vp, M4⟩ := id m4
  have c7 := segments_ok M4
  rw [show vs.length = 2 from M4.len.trans (by decide +kernel)] at c7
  have c8 := size_ok M4
  rw [show aM2.size = 4 by decide +kernel] at c8
  have c9 := writes_ok k4 (by unfold In; omega)
  change Calls _ _ _ _ (fun e w' => e = .returned (.int .i64 2) ∧ w' = w4) at c7
  change Calls _ _ _ _ (fun e w' => e = .returned (.int .i64 4) ∧ w' = w4) at c8
  have x0 := m4.ptr
  clear c4 M4 m3 k3 m4 k4 k2 m2 kp3 kp4
  go_wp2_with (first | (go_at_call 36; refine c5.mono ?_; rintro e wa ⟨rfl, rfl⟩) | (go_at_call 30; refine c6.mono ?_; rintro e wa ⟨rfl, rfl⟩) | (go_at_call 59; refine c7.mono ?_; rintro e wa ⟨rfl, rfl⟩) | (go_at_call 60; refine c8.mono ?_; rintro e wa ⟨rfl, rfl⟩) | (go_at_call 40; refine c9.mono ?_; rintro e wa ⟨rfl, rfl⟩))
  go_ret
  exact ⟨rfl, kB⟩
end Go.Proofs.Ytmbhfibldklecaa.mediums
