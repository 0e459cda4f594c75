/- pick and awake of medium's laws. -/
import Derived.Test.YtoenkkbcpafanaaMdD
import Derived.Test.YtoenkkbcpafanaaMdO


namespace Go.Proofs.Ytoenkkbcpafanaa.mediums
set_option linter.unusedVariables false
set_option linter.unusedSimpArgs false
open Go.RowKit Go.Proofs.Ytoenkkbcpafanaa.base Go.Proofs.Ytoenkkbcpafanaa.trees Go.Proofs.Ytoenkkbcpafanaa.powers Go.Lib

def pkM (c : Int) (n : Nat) : Nat := (if Int.tmod c n < 0 then Int.tmod c n + n else Int.tmod c n).toNat
theorem pkM_lt (c : Int) (n : Nat) (hn : 0 < n) : pkM c n < n := by
  have l2 : Int.tmod c n < (n : Int) := Int.tmod_lt_of_pos c (by omega)
  unfold pkM
  split <;> omega

/-- how many bytes are written in a segment, as Used says -/
def usedI (m : MS) (sg : Int) : Int := if 0 ≤ sg ∧ sg < (m.segs.length : Int) then ((m.at_ sg.toNat).size : Int) else 0
section
variable {w : World} {S : Nat → Prop} {p g : Nat} {m : MS} {sb : Nat} {vs : List Value} {vp : Value} {L W : Int}

theorem used_any (h : Md w S p g m) (sg : Int) : Calls Try.prog 109 #[.pointer (some ⟨g, 0, none⟩), .int .i64 sg] w fun e w' => e = .returned (.int .i64 (usedI m sg)) ∧ w' = w := by
  obtain ⟨sb, vs, vp, h⟩ := h
  have hl := h.len
  by_cases hj : 0 ≤ sg ∧ sg < (vs.length : Int)
  · obtain ⟨j, rfl⟩ := Int.eq_ofNat_of_zero_le hj.1
    refine (used_yes h j (by omega)).mono ?_
    rintro e w' ⟨rfl, rfl⟩
    refine ⟨?_, rfl⟩
    unfold usedI
    rw [if_pos (by omega), Int.toNat_natCast]
  · refine (used_no h sg hj).mono ?_
    rintro e w' ⟨rfl, rfl⟩
    refine ⟨?_, rfl⟩
    unfold usedI
    rw [if_neg (by omega)]
theorem used_nat (h : Md w S p g m) (j : Nat) (hj : j < m.segs.length) : Calls Try.prog 109 #[.pointer (some ⟨g, 0, none⟩), .int .i64 (j : Int)] w fun e w' => e = .returned (.int .i64 ((m.at_ j).size : Int)) ∧ w' = w := by
  obtain ⟨sb, vs, vp, h⟩ := h
  have hl := h.len
  exact used_yes h j (by omega)
theorem read_all (h : Md w S p g m) (j : Nat) (hj : j < m.segs.length) : Calls Try.prog 302 #[.pointer (some ⟨g, 0, none⟩), .int .i64 (j : Int), .int .i64 0, .int .i64 ((m.at_ j).size : Int)] w fun e w' => e = .returned (.tuple #[.string (m.at_ j), .int .i64 0]) ∧ w' = w := by
  obtain ⟨sb, vs, vp, h⟩ := h
  have hl := h.len
  refine (read_ok h j (by omega) 0 (m.at_ j).size (by omega)).mono ?_
  rintro e w' ⟨rfl, rfl⟩
  refine ⟨?_, rfl⟩
  have : (m.at_ j).extract 0 (0 + (m.at_ j).size) = m.at_ j := by rw [Nat.zero_add]; exact ByteArray.extract_zero_size
  rw [this]
theorem write_any (h : Md w S p g m) (hp : Blk w p 219 (PC L W)) (hI : In L) (sg o : Int) (b : ByteArray) (hl : (m.past.length + 1) * 32 ≤ 140737488355328) :
    Calls Try.prog 99 #[.pointer (some ⟨g, 0, none⟩), .int .i64 sg, .int .i64 o, .string b] w (WrPost S p g m L W sg o b w) := by
  obtain ⟨sb, vs, vp, h⟩ := h
  exact write_ok h hp hI sg o b hl
theorem count_any (h : Md w S p g m) : Calls Try.prog 68 #[.pointer (some ⟨g, 0, none⟩)] w fun e w' => e = .returned (.int .i64 (m.past.length : Int)) ∧ w' = w := by
  obtain ⟨sb, vs, vp, h⟩ := h
  exact count_ok h
theorem Md.ptr (h : Md w S p g m) : w.cell? ⟨g, 0, none⟩ = some (.pointer (some ⟨p, 0, none⟩)) := by
  obtain ⟨sb, vs, vp, h⟩ := h
  have x0 := h.head.cell 0
  simpa using x0
theorem Md.pasts (h : Md w S p g m) : m.past.length * 32 ≤ 140737488355328 := by
  obtain ⟨sb, vs, vp, h⟩ := h
  exact h.bnd.2.2.2
theorem Md.seglen (h : Md w S p g m) : 1 ≤ m.segs.length ∧ m.segs.length ≤ 4096 := by
  obtain ⟨sb, vs, vp, h⟩ := h
  have := h.len; have := h.bnd.2.1; omega
theorem Md.at_le (h : Md w S p g m) (j : Nat) : (m.at_ j).size ≤ m.size := by
  obtain ⟨sb, vs, vp, h⟩ := h
  exact h.bnd.2.2.1 j
end
def abc : ByteArray := ⟨#[97, 98, 99]⟩
def zee : ByteArray := ⟨#[90]⟩
def aM1 : MS := putM (newM 2 4) 0 0 abc
def aM2 : MS := putM aM1 0 1 zee
theorem aw1 : refE (newM 2 4) 0 0 abc = 0 := by decide +kernel
theorem aw2 : refE aM1 0 1 zee = 0 := by decide +kernel
theorem aw3 : aM2.at_ 0 = ⟨#[97, 90]⟩ := by decide +kernel
theorem aw4 : wrE (newM 2 4) (-1) 0 0 abc = 0 := by decide +kernel
theorem aw5 : wrE aM1 (-1) 0 1 zee = 0 := by decide +kernel

end Go.Proofs.Ytoenkkbcpafanaa.mediums
