/- Calls of EntryHistory in memory; what a row of puts and overs leaves, in pure words. -/
import Derived.Test.YtolngibmfffjcaaVerL


namespace Go.Proofs.Ytolngibmfffjcaa.vers
set_option linter.unusedVariables false
set_option linter.unusedSimpArgs false
open Go.RowKit Go.Proofs.Ytolngibmfffjcaa.base Go.Proofs.Ytolngibmfffjcaa.quotas

structure C where
  o : Bool
  v : ByteArray
  t : ByteArray
def C.cells (x : C) : List Value := [.bool x.o, .string x.v, .string x.t]
def cellsC : List C → List Value
  | [] => []
  | x :: l => x.cells ++ cellsC l
theorem cellsC_len : ∀ l : List C, (cellsC l).length = 3 * l.length
  | [] => rfl
  | x :: l => by rw [cellsC, List.length_append, cellsC_len l]; simp [C.cells]; omega
theorem cellsC_app : ∀ l m : List C, cellsC (l ++ m) = cellsC l ++ cellsC m
  | [], m => rfl
  | x :: l, m => by rw [List.cons_append, cellsC, cellsC_app l m, cellsC, List.append_assoc]
theorem cellsC_at : ∀ (l : List C) {j : Nat} (hj : j < l.length), (cellsC l)[3 * j]? = some (.bool l[j].o) ∧ (cellsC l)[3 * j + 1]? = some (.string l[j].v) ∧ (cellsC l)[3 * j + 2]? = some (.string l[j].t)
  | x :: l, 0, _ => ⟨rfl, rfl, rfl⟩
  | x :: l, j + 1, hj => by
    obtain ⟨e0, e1, e2⟩ := cellsC_at l (j := j) (by simpa using hj)
    have hl : x.cells.length = 3 := rfl
    refine ⟨?_, ?_, ?_⟩
    all_goals
      rw [cellsC, List.getElem?_append_right (by rw [hl]; omega), hl]
      first | rw [show 3 * (j + 1) - 3 = 3 * j by omega] | rw [show 3 * (j + 1) + 1 - 3 = 3 * j + 1 by omega] | rw [show 3 * (j + 1) + 2 - 3 = 3 * j + 2 by omega]
      assumption
/-- the slice (A, l.length, c) holds the calls l, below block B -/
def Cs (w : World) (B : Nat) (l : List C) (A : Option Addr) (c : Nat) : Prop := l.length ≤ c ∧ l.length * 40 ≤ 140737488355328 ∧ (A = none → c = 0) ∧ Rd w B A (cellsC l) ∧ ∀ x ∈ l, x.v.size ≤ maxLen ∧ x.t.size ≤ maxLen
section
variable {w w' : World} {B B' : Nat} {l : List C} {A : Option Addr} {c : Nat}
theorem Cs.below (h : Cs w B l A c) (hb : Below B w w') : Cs w' B l A c := ⟨h.1, h.2.1, h.2.2.1, h.2.2.2.1.keep fun _ hp => hb.cell hp, h.2.2.2.2⟩
theorem Cs.at_ (h : Cs w B l A c) {j : Nat} (hj : j < l.length) : ∃ b off, A = some ⟨b, off, none⟩ ∧ b < B ∧ w.cell? ⟨b, off + j * 3, none⟩ = some (.bool l[j].o) ∧ w.cell? ⟨b, off + j * 3 + 1, none⟩ = some (.string l[j].v) ∧ w.cell? ⟨b, off + j * 3 + 2, none⟩ = some (.string l[j].t) := by
  obtain ⟨e0, e1, e2⟩ := cellsC_at l hj
  have hr := h.2.2.2.1
  obtain ⟨b, off, e, hb, c0⟩ := hr _ _ e0
  refine ⟨b, off, e, hb, ?_, ?_, ?_⟩
  · rw [show off + j * 3 = off + 3 * j by omega]; exact c0
  · obtain ⟨b', off', e', _, c1⟩ := hr _ _ e1
    rw [e] at e'; cases e'
    rw [show off + j * 3 + 1 = off + (3 * j + 1) by omega]; exact c1
  · obtain ⟨b', off', e', _, c1⟩ := hr _ _ e2
    rw [e] at e'; cases e'
    rw [show off + j * 3 + 2 = off + (3 * j + 2) by omega]; exact c1
end

/-- the numbers of the versions since the last over end with no; all of them are right -/
def Ends (no : Int) (c d : Int) (all : List V) : Prop := rises 0 all ∧ (∀ x ∈ all, x.n ≤ no ∧ (x.v.size : Int) ≤ c ∧ (x.t.size : Int) ≤ d) ∧ (∀ y, all.getLast? = some y → y.n = no) ∧ (all = [] → no = 0)
theorem Ends.nil (c d : Int) : Ends 0 c d [] := ⟨trivial, (fun x hx => by cases hx), (fun y hy => by simp at hy), fun _ => rfl⟩
theorem Ends.snoc {no c d : Int} {all : List V} (h : Ends no c d all) {v t : ByteArray} (hv : (v.size : Int) ≤ c) (ht : (t.size : Int) ≤ d) (h0 : 0 ≤ no) : Ends (no + 1) c d (all ++ [⟨no + 1, v, t⟩]) := by
  obtain ⟨h1, h2, h3, h4⟩ := h
  refine ⟨rises_snoc _ h1 (fun y hy => by rw [h3 y hy]; show no < no + 1; omega) (fun _ => by show (0 : Int) < no + 1; omega), fun x hx => ?_, fun y hy => ?_, fun e => by simp at e⟩
  · rcases List.mem_append.1 hx with e | e
    · have := h2 x e; omega
    · rw [List.mem_singleton.1 e]; exact ⟨Int.le_refl _, hv, ht⟩
  · rw [List.getLast?_concat] at hy
    cases hy
    rfl
theorem Ends.one {no c d : Int} {v t : ByteArray} (hv : (v.size : Int) ≤ c) (ht : (t.size : Int) ≤ d) (h0 : 0 ≤ no) : Ends (no + 1) c d [⟨no + 1, v, t⟩] := by
  refine ⟨⟨by show (0 : Int) < no + 1; omega, trivial⟩, fun x hx => ?_, fun y hy => ?_, fun e => by simp at e⟩
  · rw [List.mem_singleton.1 hx]; exact ⟨Int.le_refl _, hv, ht⟩
  · simp at hy
    rw [← hy]
/-- the last e of them -/
def lastOf (e : Int) (all : List V) : List V := all.drop ((all.length : Int) - e).toNat
theorem rises_drop : ∀ {l : List V} {p : Int} (k : Nat), rises p l → rises p (l.drop k)
  | l, p, 0, h => h
  | [], p, k + 1, h => trivial
  | y :: l, p, k + 1, h => rises_drop k (rises_more h.2 (by have := h.1; omega))
theorem lastOf_last {e : Int} {all : List V} (he : 1 ≤ e) : (lastOf e all).getLast? = all.getLast? := by
  unfold lastOf
  rw [List.getLast?_drop]
  split
  · rename_i h1
    have : all.length = 0 := by omega
    rw [List.eq_nil_of_length_eq_zero this]; rfl
  · rfl
theorem lastOf_len {e : Int} {all : List V} (he : 1 ≤ e) : ((lastOf e all).length : Int) ≤ e := by
  unfold lastOf
  rw [List.length_drop]
  omega

/-- what add answers to a secret of these versions -/
theorem add_ends {a b c d e f h no : Int} {s : ByteArray} {all : List V} (hk : ok a b c d e f h) (hs : s.size ≠ 0) (hs' : (s.size : Int) ≤ b) (hE : Ends no c d all) (hno : 0 ≤ no ∧ no ≤ 1000) (v t : ByteArray) (kp : Int) :
    addP a b c d e f h s (lastOf e all) v t kp = if c < v.size ∨ d < t.size then badA 5 else ⟨0, s, (lastOf e all).drop (((lastOf e all).length : Int) + 1 - kp).toNat ++ [⟨no + 1, v, t⟩], (lastOf e all).take (((lastOf e all).length : Int) + 1 - kp).toNat⟩ := by
  have he : 1 ≤ e := hk.2.2.2.2.1.1
  have hn : nbad a b c d e f h s (lastOf e all) = 0 := by
    rw [nbad_yes hk, if_neg hs, if_neg (by omega), if_neg (by have := lastOf_len (all := all) he; omega)]
    refine vbad_rises (rises_drop _ hE.1) fun x hx => ?_
    have := hE.2.1 x (List.mem_of_mem_drop hx)
    omega
  have hnn : noOf (lastOf e all) = no + 1 := by
    unfold noOf
    rw [lastOf_last he]
    cases hl : all.getLast? with
    | none =>
      have : all = [] := List.getLast?_eq_none_iff.1 hl
      rw [hE.2.2.2 this]
      rfl
    | some y => show y.n + 1 = no + 1; rw [hE.2.2.1 y hl]
  unfold addP
  rw [if_neg (by simpa using hn)]
  split
  · rfl
  · rw [if_neg (by rw [hnn]; omega), hnn]
theorem put_ends {e : Int} {all : List V} {x : V} (he : 1 ≤ e) : (lastOf e all).drop (((lastOf e all).length : Int) + 1 - e).toNat ++ [x] = lastOf e (all ++ [x]) := by
  unfold lastOf
  rw [List.length_drop, List.length_append, List.drop_append_of_le_length (by simp; omega), List.drop_drop]
  congr 2
  simp
  omega
theorem over_ends {e : Int} {all : List V} {x : V} (he : 1 ≤ e) : (lastOf e all).drop (((lastOf e all).length : Int) + 1 - 1).toNat ++ [x] = lastOf e [x] := by
  rw [List.drop_eq_nil_of_le (by omega)]
  unfold lastOf
  rw [show (([x] : List V).length : Int) - e = 1 - e from rfl, show (1 - e).toNat = 0 by omega]
  rfl
end Go.Proofs.Ytolngibmfffjcaa.vers
