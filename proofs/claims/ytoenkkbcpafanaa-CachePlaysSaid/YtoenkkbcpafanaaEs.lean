/- Secrets in a list, in memory. -/
import Derived.Test.YtoenkkbcpafanaaVer


namespace Go.Proofs.Ytoenkkbcpafanaa.vers
set_option linter.unusedVariables false
set_option linter.unusedSimpArgs false
open Go.RowKit Go.Proofs.Ytoenkkbcpafanaa.base

structure E where
  s : ByteArray
  l : List V
  A : Option Addr
  c : Nat
def E.cells (x : E) : List Value := [.string x.s, .slice x.A x.l.length x.c]
def cellsE : List E → List Value
  | [] => []
  | x :: l => x.cells ++ cellsE l
theorem cellsE_len : ∀ l : List E, (cellsE l).length = 2 * l.length
  | [] => rfl
  | x :: l => by rw [cellsE, List.length_append, cellsE_len l]; simp [E.cells]; omega
theorem cellsE_app : ∀ l m : List E, cellsE (l ++ m) = cellsE l ++ cellsE m
  | [], m => rfl
  | x :: l, m => by rw [List.cons_append, cellsE, cellsE_app l m, cellsE, List.append_assoc]
theorem cellsE_at : ∀ (l : List E) {j : Nat} (hj : j < l.length), (cellsE l)[2 * j]? = some (.string l[j].s) ∧ (cellsE l)[2 * j + 1]? = some (.slice l[j].A l[j].l.length l[j].c)
  | x :: l, 0, _ => ⟨rfl, rfl⟩
  | x :: l, j + 1, hj => by
    obtain ⟨e0, e1⟩ := cellsE_at l (j := j) (by simpa using hj)
    have hl : x.cells.length = 2 := rfl
    refine ⟨?_, ?_⟩
    all_goals
      rw [cellsE, List.getElem?_append_right (by rw [hl]; omega), hl]
      first | rw [show 2 * (j + 1) - 2 = 2 * j by omega] | rw [show 2 * (j + 1) + 1 - 2 = 2 * j + 1 by omega]
      assumption
/-- the slice (A, l.length, c) holds the secrets l, below block B -/
def Es (w : World) (B : Nat) (l : List E) (A : Option Addr) (c : Nat) : Prop := l.length ≤ c ∧ l.length * 40 ≤ 140737488355328 ∧ (A = none → c = 0) ∧ Rd w B A (cellsE l) ∧ ∀ x ∈ l, Vs w B x.l x.A x.c ∧ x.s.size ≤ maxLen
section
variable {w w' : World} {B B' : Nat} {l : List E} {A : Option Addr} {c : Nat}
theorem Es.below (h : Es w B l A c) (hb : Below B w w') : Es w' B l A c := ⟨h.1, h.2.1, h.2.2.1, h.2.2.2.1.keep fun _ hp => hb.cell hp, fun x hx => ⟨(h.2.2.2.2 x hx).1.below hb, (h.2.2.2.2 x hx).2⟩⟩
theorem Es.more (h : Es w B l A c) (hB : B ≤ B') : Es w B' l A c := ⟨h.1, h.2.1, h.2.2.1, h.2.2.2.1.more hB, fun x hx => ⟨(h.2.2.2.2 x hx).1.more hB, (h.2.2.2.2 x hx).2⟩⟩
theorem Es.at_world {wr : World} (h : Es w w.heap.size l A c) (hb : Below w.heap.size w wr) : Es wr wr.heap.size l A c := (h.below hb).more hb.size
theorem Es.at_ (h : Es w B l A c) {j : Nat} (hj : j < l.length) : ∃ b off, A = some ⟨b, off, none⟩ ∧ b < B ∧ w.cell? ⟨b, off + j * 2, none⟩ = some (.string l[j].s) ∧ w.cell? ⟨b, off + j * 2 + 1, none⟩ = some (.slice l[j].A l[j].l.length l[j].c) ∧ Vs w B l[j].l l[j].A l[j].c := by
  obtain ⟨e0, e1⟩ := cellsE_at l hj
  have hr := h.2.2.2.1
  obtain ⟨b, off, e, hb, c0⟩ := hr _ _ e0
  refine ⟨b, off, e, hb, ?_, ?_, (h.2.2.2.2 _ (List.getElem_mem hj)).1⟩
  · rw [show off + j * 2 = off + 2 * j by omega]; exact c0
  · obtain ⟨b', off', e', _, c1⟩ := hr _ _ e1
    rw [e] at e'; cases e'
    rw [show off + j * 2 + 1 = off + (2 * j + 1) by omega]; exact c1
theorem Es.take (h : Es w B l A c) {k : Nat} (hk : k ≤ l.length) : Es w B (l.take k) A c := by
  obtain ⟨h1, h2, h3, h4, h5⟩ := h
  have hl : (l.take k).length = k := by rw [List.length_take]; omega
  refine ⟨by omega, by omega, h3, fun j u hj => h4 j u ?_, fun x hx => h5 x (List.mem_of_mem_take hx)⟩
  have e : cellsE l = cellsE (l.take k) ++ cellsE (l.drop k) := by rw [← cellsE_app, List.take_append_drop]
  rw [e, List.getElem?_append_left (by rcases Nat.lt_or_ge j (cellsE (l.take k)).length with h | h; exact h; rw [List.getElem?_eq_none h] at hj; cases hj)]
  exact hj
end

end Go.Proofs.Ytoenkkbcpafanaa.vers
