/- Versions in memory: a list's cells; what is wrong with a secret, in pure words. -/
import Derived.Test.YtoenkkbcpafanaaQuA
import Derived.Lib.Hide


namespace Go.Proofs.Ytoenkkbcpafanaa.vers
set_option linter.unusedVariables false
set_option linter.unusedSimpArgs false
open Go.RowKit Go.Proofs.Ytoenkkbcpafanaa.base Go.Proofs.Ytoenkkbcpafanaa.quotas

structure V where
  n : Int
  v : ByteArray
  t : ByteArray
deriving DecidableEq

def V.cells (x : V) : List Value := [.int .i64 x.n, .string x.v, .string x.t]
def V.fits (x : V) : Prop := (-9223372036854775808 ≤ x.n ∧ x.n ≤ 9223372036854775807) ∧ x.v.size ≤ maxLen ∧ x.t.size ≤ maxLen
def cellsV : List V → List Value
  | [] => []
  | x :: l => x.cells ++ cellsV l

theorem cellsV_len : ∀ l : List V, (cellsV l).length = 3 * l.length
  | [] => rfl
  | x :: l => by rw [cellsV, List.length_append, cellsV_len l]; simp [V.cells]; omega
theorem cellsV_app : ∀ l m : List V, cellsV (l ++ m) = cellsV l ++ cellsV m
  | [], m => rfl
  | x :: l, m => by rw [List.cons_append, cellsV, cellsV_app l m, cellsV, List.append_assoc]
theorem cellsV_at : ∀ (l : List V) {j : Nat} (hj : j < l.length), (cellsV l)[3 * j]? = some (.int .i64 l[j].n) ∧ (cellsV l)[3 * j + 1]? = some (.string l[j].v) ∧ (cellsV l)[3 * j + 2]? = some (.string l[j].t)
  | x :: l, 0, _ => ⟨rfl, rfl, rfl⟩
  | x :: l, j + 1, hj => by
    obtain ⟨e0, e1, e2⟩ := cellsV_at l (j := j) (by simpa using hj)
    have hl : x.cells.length = 3 := rfl
    refine ⟨?_, ?_, ?_⟩
    all_goals
      rw [cellsV, List.getElem?_append_right (by rw [hl]; omega), hl]
      first | rw [show 3 * (j + 1) - 3 = 3 * j by omega] | rw [show 3 * (j + 1) + 1 - 3 = 3 * j + 1 by omega] | rw [show 3 * (j + 1) + 2 - 3 = 3 * j + 2 by omega]
      assumption
theorem cellsV_one (l : List V) : ∀ u ∈ cellsV l, u.oneCell' = true := by
  induction l with
  | nil => intro u h; cases h
  | cons x l ih =>
    intro u h
    rcases List.mem_append.1 h with h | h
    · simp [V.cells] at h
      rcases h with rfl | rfl | rfl <;> rfl
    · exact ih u h

/-- the slice (A, l.length, c) holds the versions l, below block B -/
def Vs (w : World) (B : Nat) (l : List V) (A : Option Addr) (c : Nat) : Prop := l.length ≤ c ∧ l.length * 40 ≤ 140737488355328 ∧ (A = none → c = 0) ∧ Rd w B A (cellsV l) ∧ ∀ x ∈ l, x.fits

section
variable {w w' : World} {B B' : Nat} {l : List V} {A : Option Addr} {c : Nat}
theorem Vs.keep (h : Vs w B l A c) (hk : ∀ p : Addr, p.block < B → w'.cell? p = w.cell? p) : Vs w' B l A c := ⟨h.1, h.2.1, h.2.2.1, h.2.2.2.1.keep hk, h.2.2.2.2⟩
theorem Vs.below (h : Vs w B l A c) (hb : Below B w w') : Vs w' B l A c := h.keep fun _ hp => hb.cell hp
theorem Vs.more (h : Vs w B l A c) (hB : B ≤ B') : Vs w B' l A c := ⟨h.1, h.2.1, h.2.2.1, h.2.2.2.1.more hB, h.2.2.2.2⟩
theorem Vs.at_ (h : Vs w B l A c) {j : Nat} (hj : j < l.length) : ∃ b off, A = some ⟨b, off, none⟩ ∧ b < B ∧ w.cell? ⟨b, off + j * 3, none⟩ = some (.int .i64 l[j].n) ∧ w.cell? ⟨b, off + j * 3 + 1, none⟩ = some (.string l[j].v) ∧ w.cell? ⟨b, off + j * 3 + 2, none⟩ = some (.string l[j].t) := by
  obtain ⟨e0, e1, e2⟩ := cellsV_at l hj
  have hr := h.2.2.2.1
  obtain ⟨b, off, e, hb, c0⟩ := hr _ _ e0
  refine ⟨b, off, e, hb, ?_, ?_, ?_⟩
  · rw [show off + j * 3 = off + 3 * j by omega]; exact c0
  · obtain ⟨b', off', e', _, c1⟩ := hr _ _ e1
    rw [e] at e'; cases e'
    rw [show off + j * 3 + 1 = off + (3 * j + 1) by omega]; exact c1
  · obtain ⟨b', off', e', _, c1⟩ := hr _ _ e2
    rw [e] at e'; cases e'
    rw [show off + j * 3 + 2 = off + (3 * j + 2) by omega]; exact c1
end
theorem lay {p : Prop} (h : p) : Hid p := h

/-- what is wrong with versions behind one of number p -/
def vbad (c d : Int) : Int → List V → Int
  | _, [] => 0
  | p, x :: l => if x.n ≤ p ∨ 1073741824 < x.n then 50 else if c < x.v.size ∨ d < x.t.size then 5 else vbad c d x.n l
/-- the number of the j-th version before, 0 ahead of the first -/
def before (l : List V) (j : Nat) : Int := if h : 0 < j ∧ j ≤ l.length then (l[j - 1]'(by omega)).n else 0
theorem before_zero (l : List V) : before l 0 = 0 := by unfold before; simp
theorem before_succ (l : List V) {j : Nat} (hj : j < l.length) : before l (j + 1) = l[j].n := by unfold before; rw [dif_pos ⟨by omega, by omega⟩]; rfl
theorem vbad_at (c d p : Int) (l : List V) {j : Nat} (hj : j < l.length) : vbad c d p (l.drop j) = if l[j].n ≤ p ∨ 1073741824 < l[j].n then 50 else if c < l[j].v.size ∨ d < l[j].t.size then 5 else vbad c d l[j].n (l.drop (j + 1)) := by
  rw [List.drop_eq_getElem_cons hj]; rfl
theorem vbad_end (c d p : Int) (l : List V) {j : Nat} (hj : l.length ≤ j) : vbad c d p (l.drop j) = 0 := by
  rw [List.drop_eq_nil_of_le hj]; rfl

instance decOk (a b c d e f h : Int) : Decidable (ok a b c d e f h) := by unfold ok; infer_instance
/-- what is wrong with a secret of this quota, but that it may be new: the document's order -/
def nbad (a b c d e f h : Int) (s : ByteArray) (l : List V) : Int :=
  if ok a b c d e f h then (if s.size = 0 then 4 else if b < s.size then 5 else if e < l.length then 50 else vbad c d 0 l) else 40
end Go.Proofs.Ytoenkkbcpafanaa.vers
