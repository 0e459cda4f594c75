/- Calls in a list, lists of calls in a list, in memory. -/
import Derived.Test.YtjlglfjikfpboaaBkAE


namespace Go.Proofs.Ytjlglfjikfpboaa.books
set_option linter.unusedVariables false
set_option linter.unusedSimpArgs false
open Go.RowKit Go.Proofs.Ytjlglfjikfpboaa.base Go.Proofs.Ytjlglfjikfpboaa.quotas Go.Proofs.Ytjlglfjikfpboaa.vers Go.Proofs.Ytjlglfjikfpboaa.nodes Go.Proofs.Ytjlglfjikfpboaa.trees

def O.cells (x : O) : List Value := [.int .i64 x.k, .string x.s, .string x.v, .string x.t]
def cellsO : List O → List Value
  | [] => []
  | x :: l => x.cells ++ cellsO l
theorem cellsO_len : ∀ l : List O, (cellsO l).length = 4 * l.length
  | [] => rfl
  | x :: l => by rw [cellsO, List.length_append, cellsO_len l]; simp [O.cells]; omega
theorem cellsO_app : ∀ l m : List O, cellsO (l ++ m) = cellsO l ++ cellsO m
  | [], m => rfl
  | x :: l, m => by rw [List.cons_append, cellsO, cellsO_app l m, cellsO, List.append_assoc]
theorem cellsO_at : ∀ (l : List O) {j : Nat} (hj : j < l.length), (cellsO l)[4 * j]? = some (.int .i64 l[j].k) ∧ (cellsO l)[4 * j + 1]? = some (.string l[j].s) ∧ (cellsO l)[4 * j + 2]? = some (.string l[j].v) ∧ (cellsO l)[4 * j + 3]? = some (.string l[j].t)
  | x :: l, 0, _ => ⟨rfl, rfl, rfl, rfl⟩
  | x :: l, j + 1, hj => by
    obtain ⟨e0, e1, e2, e3⟩ := cellsO_at l (j := j) (by simpa using hj)
    have hl : x.cells.length = 4 := rfl
    refine ⟨?_, ?_, ?_, ?_⟩
    all_goals
      rw [cellsO, List.getElem?_append_right (by rw [hl]; omega), hl]
      first | rw [show 4 * (j + 1) - 4 = 4 * j by omega] | rw [show 4 * (j + 1) + 1 - 4 = 4 * j + 1 by omega] | rw [show 4 * (j + 1) + 2 - 4 = 4 * j + 2 by omega] | rw [show 4 * (j + 1) + 3 - 4 = 4 * j + 3 by omega]
      assumption
/-- the slice (A, l.length, c) holds the list l, below block B -/
def Os (w : World) (B : Nat) (l : List O) (A : Option Addr) (c : Nat) : Prop := l.length ≤ c ∧ l.length * 56 ≤ 140737488355328 ∧ (A = none → c = 0) ∧ Rd w B A (cellsO l) ∧ ∀ x ∈ l, x.fits
section
variable {w w' : World} {B B' : Nat} {l : List O} {A : Option Addr} {c : Nat}
theorem Os.below (h : Os w B l A c) (hb : Below B w w') : Os w' B l A c := ⟨h.1, h.2.1, h.2.2.1, h.2.2.2.1.keep fun _ hp => hb.cell hp, h.2.2.2.2⟩
theorem Os.more (h : Os w B l A c) (hB : B ≤ B') : Os w B' l A c := ⟨h.1, h.2.1, h.2.2.1, h.2.2.2.1.more hB, h.2.2.2.2⟩
theorem Os.at_world {wr : World} (h : Os w w.heap.size l A c) (hb : Below w.heap.size w wr) : Os wr wr.heap.size l A c := (h.below hb).more hb.size
theorem Os.keep {S : Nat → Prop} (h : Os w B l A c) (hk : Keep S w w') (hB : B ≤ w.heap.size) (hS : ∀ g, S g → B ≤ g) : Os w' B l A c :=
  ⟨h.1, h.2.1, h.2.2.1, h.2.2.2.1.keep fun p hp => hk.cell (Nat.lt_of_lt_of_le hp hB) (fun h => by have := hS _ h; omega), h.2.2.2.2⟩
theorem Os.at_ (h : Os w B l A c) {j : Nat} (hj : j < l.length) : ∃ b off, A = some ⟨b, off, none⟩ ∧ b < B ∧ w.cell? ⟨b, off + j * 4, none⟩ = some (.int .i64 l[j].k) ∧ w.cell? ⟨b, off + j * 4 + 1, none⟩ = some (.string l[j].s) ∧ w.cell? ⟨b, off + j * 4 + 2, none⟩ = some (.string l[j].v) ∧ w.cell? ⟨b, off + j * 4 + 3, none⟩ = some (.string l[j].t) := by
  obtain ⟨e0, e1, e2, e3⟩ := cellsO_at l hj
  have hr := h.2.2.2.1
  obtain ⟨b, off, e, hb, c0⟩ := hr _ _ e0
  refine ⟨b, off, e, hb, ?_, ?_, ?_, ?_⟩
  · rw [show off + j * 4 = off + 4 * j by omega]; exact c0
  · obtain ⟨b', off', e', _, c1⟩ := hr _ _ e1
    rw [e] at e'; cases e'
    rw [show off + j * 4 + 1 = off + (4 * j + 1) by omega]; exact c1
  · obtain ⟨b', off', e', _, c1⟩ := hr _ _ e2
    rw [e] at e'; cases e'
    rw [show off + j * 4 + 2 = off + (4 * j + 2) by omega]; exact c1
  · obtain ⟨b', off', e', _, c1⟩ := hr _ _ e3
    rw [e] at e'; cases e'
    rw [show off + j * 4 + 3 = off + (4 * j + 3) by omega]; exact c1
end

/-- a list of calls, as it lies -/
structure BL where
  l : List O
  A : Option Addr
  c : Nat

def BL.cells (x : BL) : List Value := [.slice x.A x.l.length x.c]
def cellsB : List BL → List Value
  | [] => []
  | x :: l => x.cells ++ cellsB l
theorem cellsB_len : ∀ l : List BL, (cellsB l).length = l.length
  | [] => rfl
  | x :: l => by rw [cellsB, List.length_append, cellsB_len l]; simp [BL.cells]; omega
theorem cellsB_app : ∀ l m : List BL, cellsB (l ++ m) = cellsB l ++ cellsB m
  | [], m => rfl
  | x :: l, m => by rw [List.cons_append, cellsB, cellsB_app l m, cellsB, List.append_assoc]
theorem cellsB_at : ∀ (l : List BL) {j : Nat} (hj : j < l.length), (cellsB l)[j]? = some (.slice l[j].A l[j].l.length l[j].c)
  | x :: l, 0, _ => rfl
  | x :: l, j + 1, hj => by
    have e0 := cellsB_at l (j := j) (by simpa using hj)
    have hl : x.cells.length = 1 := rfl
    all_goals
      rw [cellsB, List.getElem?_append_right (by rw [hl]; omega), hl]
      first | rw [show j + 1 - 1 = j by omega]
      assumption
/-- the slice (A, l.length, c) holds the list l, below block B -/
def Bs (w : World) (B : Nat) (l : List BL) (A : Option Addr) (c : Nat) : Prop := l.length ≤ c ∧ l.length * 24 ≤ 140737488355328 ∧ (A = none → c = 0) ∧ Rd w B A (cellsB l) ∧ ∀ x ∈ l, Os w B x.l x.A x.c
section
variable {w w' : World} {B B' : Nat} {l : List BL} {A : Option Addr} {c : Nat}
theorem Bs.below (h : Bs w B l A c) (hb : Below B w w') : Bs w' B l A c := ⟨h.1, h.2.1, h.2.2.1, h.2.2.2.1.keep fun _ hp => hb.cell hp, fun x hx => (h.2.2.2.2 x hx).below hb⟩
theorem Bs.more (h : Bs w B l A c) (hB : B ≤ B') : Bs w B' l A c := ⟨h.1, h.2.1, h.2.2.1, h.2.2.2.1.more hB, fun x hx => (h.2.2.2.2 x hx).more hB⟩
theorem Bs.at_world {wr : World} (h : Bs w w.heap.size l A c) (hb : Below w.heap.size w wr) : Bs wr wr.heap.size l A c := (h.below hb).more hb.size
theorem Bs.at_ (h : Bs w B l A c) {j : Nat} (hj : j < l.length) : ∃ b off, A = some ⟨b, off, none⟩ ∧ b < B ∧ w.cell? ⟨b, off + j, none⟩ = some (.slice l[j].A l[j].l.length l[j].c) ∧ Os w B l[j].l l[j].A l[j].c := by
  have e0 := cellsB_at l hj
  obtain ⟨b, off, e, hb, c0⟩ := h.2.2.2.1 _ _ e0
  exact ⟨b, off, e, hb, c0, h.2.2.2.2 _ (List.getElem_mem hj)⟩
end

end Go.Proofs.Ytjlglfjikfpboaa.books
