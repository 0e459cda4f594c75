/- The walk of the law TermRows: it answers true and writes nothing that was there. -/
import Derived.Test.YtjlglfjikfpboaaTermB
import Derived.Test.YtjlglfjikfpboaaTermC


namespace Go.Proofs.Ytjlglfjikfpboaa.rowsLaw
set_option linter.unusedVariables false
set_option linter.unusedSimpArgs false
open Go.RowKit Go.Proofs.Ytjlglfjikfpboaa.base Go.Proofs.Ytjlglfjikfpboaa.tm Go.Proofs.Ytjlglfjikfpboaa.lies Go.Proofs.Ytjlglfjikfpboaa.rights Go.Proofs.Ytjlglfjikfpboaa.copies Go.Proofs.Ytjlglfjikfpboaa.makes Go.Proofs.Ytjlglfjikfpboaa.encs Go.Proofs.Ytjlglfjikfpboaa.refEncs

/-- a row of terms; a box with it -/
def rowT (l : List T) : T := .mk 5 0 ⟨#[]⟩ l
def boxT (k : Int) (t : T) : T := .mk 4 k ⟨#[]⟩ [t]

theorem str5 : (⟨#[5]⟩ : ByteArray).size = 1 := rfl
theorem row_lies {w : World} {lo : Nat} {l : List T} {A : Option Addr} {c : Nat} (h : Held w lo w.heap.size l (.slice A l.length c)) : Lies w w.heap.size (rowT l) (.slice A l.length c) :=
  Held.lies (t := rowT l) h (by show (-9223372036854775808 : Int) ≤ 5 ∧ (5 : Int) ≤ 9223372036854775807; omega) (by show (0 : Int) ≤ 0 ∧ (0 : Int) < 18446744073709551616; omega) (Nat.zero_le _) (Nat.le_refl _)

theorem box_lies {w : World} {m : List T} {A : Option Addr} {c : Nat} (key : Nat) (o : Obj) (hk : key < 18446744073709551616) (h : Lies w w.heap.size (rowT m) (.slice A m.length c)) :
    Lies ((w.alloc (.cells #[.int .i64 5, .int .u64 0, .string ⟨#[]⟩, .slice A m.length c] 39)).alloc o) ((w.alloc (.cells #[.int .i64 5, .int .u64 0, .string ⟨#[]⟩, .slice A m.length c] 39)).alloc o).heap.size (boxT key (rowT m)) (.slice (some ⟨w.heap.size, 0, none⟩) 1 1) := by
  have hbk := (Blk.new w 39 #[.int .i64 5, .int .u64 0, .string ⟨#[]⟩, .slice A m.length c]).alloc o
  have hr := Blk.rd (xs := [.int .i64 5, .int .u64 0, .string ⟨#[]⟩, .slice A m.length c]) (B := ((w.alloc (.cells #[.int .i64 5, .int .u64 0, .string ⟨#[]⟩, .slice A m.length c] 39)).alloc o).heap.size) hbk (by simp; omega)
  exact Lies.mk (t := boxT key (rowT m)) (by show (-9223372036854775808 : Int) ≤ 4 ∧ (4 : Int) ≤ 9223372036854775807; omega) (by show (0 : Int) ≤ (key : Int) ∧ (key : Int) < 18446744073709551616; omega) (Nat.zero_le _) (Nat.le_refl _) (by show 1 * 56 ≤ 140737488355328; omega) hr
    ⟨_, [], rfl, (h.later (Nat.le_refl _) _).later (Nat.le_refl _) o, rfl⟩

theorem take_lies {w : World} {B : Nat} (n : Nat) : ∀ {l : List T} {xs : List Value}, LiesL w B l xs → LiesL w B (l.take n) (xs.take (4 * n)) := by
  induction n with
  | zero => intro l xs _; simp [LiesL]
  | succ n ih =>
    intro l xs h
    cases l with
    | nil => rw [show xs = [] from h]; simp [LiesL]
    | cons t l =>
      obtain ⟨v, ys, rfl, h1, h2⟩ := h
      exact ⟨v, ys.take (4 * n), by rw [show 4 * (n + 1) = 4 * n + 1 + 1 + 1 + 1 by omega]; rfl, h1, ih h2⟩
theorem row_len {m : List T} (h : (rowT m).right = 0) (hw : wordL m) : (rowT m).enc.length ≤ 16044000 := by
  obtain ⟨h1, h2, h3⟩ := right_ok h
  have h4 : m.length < 18446744073709551616 := by
    have k4 : ∀ l : List T, l.length ≤ sizeL l := fun l => by
      induction l with
      | nil => simp
      | cons t l ih => have := size_pos t; simp only [List.length_cons, sizeL]; omega
    have k5 := k4 m
    have : (rowT m).size = sizeL m + 1 := rfl
    omega
  have := enc_len (rowT m) h3 ⟨⟨⟨Int.le_refl 0, by omega⟩, h4⟩, hw⟩
  omega

theorem box_str (key : Nat) (t : T) : (!(boxT (key : Int) t).enc == ((⟨#[4]⟩ : ByteArray) ++ ⟨(putL key).toArray⟩ ++ ⟨t.enc.toArray⟩).toList) = false := by
  have e : (boxT (key : Int) t).enc = ((⟨#[4]⟩ : ByteArray) ++ ⟨(putL key).toArray⟩ ++ ⟨t.enc.toArray⟩).toList := by
    rw [tm.toList_eq, enc_eq]
    have h1 : (boxT (key : Int) t).head = key := by rw [head_eq, if_neg (show ¬ (boxT (key : Int) t).k = 2 from (by show ¬ (4 : Int) = 2; omega)), if_neg (show ¬ (boxT (key : Int) t).k = 5 from (by show ¬ (4 : Int) = 5; omega))]; rfl
    rw [h1]
    show UInt8.ofNat (Int.toNat 4) :: (putL key ++ ([] ++ (t.enc ++ []))) = _
    simp
  rw [e]
  simp
theorem row_str {m : List T} {x : ByteArray} (h : x.data.toList = 5 :: (putL m.length ++ encL m)) : ((rowT m).enc == x.toList) = true := by
  rw [tm.toList_eq, h, enc_eq]
  have h1 : (rowT m).head = m.length := by rw [head_eq, if_neg (show ¬ (rowT m).k = 2 from (by show ¬ (5 : Int) = 2; omega)), if_pos (show (rowT m).k = 5 from rfl)]; rfl
  rw [h1]
  show ((UInt8.ofNat (Int.toNat 5) :: (putL m.length ++ ([] ++ encL m))) == _) = true
  simp

/-- at the loop's head -/
def WHead (W : World) (m : List T) (u i : Value) (wr : World) : Prop :=
  ∃ (j : Nat) (x : ByteArray), j ≤ m.length ∧ i = .int .i64 j ∧ u = .string x ∧ Hid (x.data.toList = 5 :: (putL m.length ++ encL (m.take j))) ∧ x.size ≤ 32088000 ∧ Below W.heap.size W wr

theorem right_row {m : List T} (h : (rowT m).right = 0) : sizeL m + 1 ≤ 4000 ∧ deepL m + 1 ≤ 12 ∧ shapedL m = true := by
  obtain ⟨h1, h2, h3⟩ := right_ok h
  refine ⟨h1, h2, ?_⟩
  rw [shaped_eq, Bool.and_eq_true] at h3
  exact h3.2
theorem part_right {m : List T} (h : (rowT m).right = 0) {j : Nat} (hj : j < m.length) : m[j].right = 0 := by
  obtain ⟨h1, h2, h3⟩ := right_row h
  have a := size_get m j hj
  have b := deep_get m j hj
  exact ok_right (by omega) (by omega) (shapedL_at m j hj h3)
theorem part_len {m : List T} (h : (rowT m).right = 0) {j : Nat} (hj : j < m.length) (hw : m[j].word) : m[j].enc.length ≤ 16044000 := by
  obtain ⟨h1, h2, h3⟩ := right_row h
  have a := size_get m j hj
  have := enc_len m[j] (shapedL_at m j hj h3) hw
  omega
theorem whead_next {W wr : World} {m : List T} {j : Nat} {x : ByteArray} (hj : j < m.length) (hR : (rowT m).right = 0) (hw : wordL m) (hx : x.data.toList = 5 :: (putL m.length ++ encL (m.take j))) (hb : Below W.heap.size W wr) : WHead W m (.string (x ++ ⟨m[j].enc.toArray⟩)) (.int .i64 ((j : Int) + 1)) wr := by
  obtain ⟨h1, h2, h3⟩ := right_row hR
  have e : (x ++ ⟨m[j].enc.toArray⟩).data.toList = 5 :: (putL m.length ++ encL (m.take (j + 1))) := by
    rw [encL_take _ _ hj, ← List.append_assoc, ← List.cons_append, ← hx]; simp
  refine ⟨j + 1, _, hj, by go_num, rfl, lay e, ?_, hb⟩
  have k1 := congrArg List.length e
  have k2 := encL_len _ (shapedL_tk m (j + 1) h3) (wordL_tk m (j + 1) hw)
  have k3 := sizeL_le m (j + 1)
  have k4 : ∀ l : List T, l.length ≤ sizeL l := fun l => by
    induction l with
    | nil => simp
    | cons t l ih => have := size_pos t; simp only [List.length_cons, sizeL]; omega
  have k5 := k4 m
  have k6 := putL_ten (n := m.length) (by omega)
  have k7 : (x ++ ⟨m[j].enc.toArray⟩).data.toList.length = (x ++ ⟨m[j].enc.toArray⟩).size := Array.length_toList
  rw [k7] at k1
  simp only [List.length_append, List.length_cons] at k1
  omega

end Go.Proofs.Ytjlglfjikfpboaa.rowsLaw
