/- Named and Right of the document: what is wrong with a secret. -/
import Derived.Test.YthmamlghmagmkaaVer
import Derived.BigQuiet
import Derived.Deep.QuietTactic


namespace Go.Proofs.Ythmamlghmagmkaa.vers
set_option linter.unusedVariables false
set_option linter.unusedSimpArgs false
open Go.RowKit Go.Proofs.Ythmamlghmagmkaa.base Go.Proofs.Ythmamlghmagmkaa.quotas

/-- behind a call's beginning: its own boxes hold the quota and the secret -/
def Bx (w : World) (a b c d e f h : Int) (s : ByteArray) (u : Value) (wr : World) : Prop :=
  In7 w w.heap.size a b c d e f h wr ∧ (wr.cell? ⟨w.heap.size + 1, 0, none⟩ = some (.string s) ∧ wr.cell? ⟨w.heap.size + 1, 1, none⟩ = some u) ∧ w.heap.size + 1 < wr.heap.size
theorem Bx.next {w wr w' : World} {a b c d e f h : Int} {s : ByteArray} {u : Value} (h1 : Bx w a b c d e f h s u wr) (hb : Below wr.heap.size wr w') : Bx w a b c d e f h s u w' := by
  obtain ⟨h1, ⟨h2, h3⟩, h4⟩ := h1
  have hs := hb.size
  exact ⟨h1.next hb, ⟨by rw [hb.cell (by simpa using h4)]; exact h2, by rw [hb.cell (by simpa using h4)]; exact h3⟩, by omega⟩
theorem Bx.alloc {w wr : World} {a b c d e f h : Int} {s : ByteArray} {u : Value} (h1 : Bx w a b c d e f h s u wr) (o : Obj) : Bx w a b c d e f h s u (wr.alloc o) := h1.next ((Below.refl _ _).alloc (Nat.le_refl _) _)
theorem Bx.drewN {w wr : World} {a b c d e f h : Int} {s : ByteArray} {u : Value} (h1 : Bx w a b c d e f h s u wr) (n : Nat) : Bx w a b c d e f h s u (wr.drewN n) := h1.next ⟨rfl, rfl, rfl, Nat.le_refl _, fun _ _ => rfl⟩
theorem Bx.below {w wr : World} {a b c d e f h : Int} {s : ByteArray} {u : Value} (h1 : Bx w a b c d e f h s u wr) : Below w.heap.size w wr := h1.1.2.2.2

/-- a round's head: so far nothing is wrong -/
def NHead (w : World) (a b c d e f h : Int) (s : ByteArray) (l : List V) (A : Option Addr) (cap : Nat) (x : Value) (wr : World) : Prop :=
  ∃ j : Nat, j ≤ l.length ∧ x = .int .i64 j ∧ Hid (vbad c d 0 l = vbad c d (before l j) (l.drop j)) ∧ 0 ≤ before l j ∧ Bx w a b c d e f h s (.slice A l.length cap) wr

theorem empty_no {s : ByteArray} (h : s.size ≠ 0) : s.toList.isEmpty = false := by
  rw [ByteArray.toList_eq]
  have e : s.data.toList.length = s.size := by simp
  cases hl : s.data.toList with
  | nil => rw [hl] at e; simp at e; omega
  | cons _ _ => rfl
theorem empty_yes {s : ByteArray} (h : s.size = 0) : s.toList.isEmpty = true := by
  rw [ByteArray.toList_eq]
  have e : s.data.toList.length = s.size := by simp
  cases hl : s.data.toList with
  | nil => rfl
  | cons _ _ => rw [hl] at e; simp at e; omega
theorem ret_int {k : IntKind} {a b : Int} (h : a = b) : Ending.returned (.int k a) = .returned (.int k b) := by rw [h]
theorem len_in {w : World} {l : List V} {A : Option Addr} {c : Nat} (h : Vs w w.heap.size l A c) : l.length ≤ 140737488355328 := by have h1 := h.1; have h2 := h.2.1; omega

end Go.Proofs.Ythmamlghmagmkaa.vers
