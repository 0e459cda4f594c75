/- Rows of a power's calls, in memory and as an argument. -/
import Derived.Test.YtoenkkbcpafanaaBase
import Derived.Test.YtoenkkbcpafanaaProg
import Derived.Lib.SmallJoins
import Derived.SizedLaws
import Derived.ProofKit
import Derived.OpenShut


namespace Go.Proofs.Ytoenkkbcpafanaa.powers
set_option linter.unusedVariables false
set_option linter.unusedSimpArgs false
open Go.RowKit Go.ChangeShapes Go.WideShapes Go.Proofs.Ytoenkkbcpafanaa.base

structure OP where
  k : Int
  n : Int
  on : Bool
def OP.cells (x : OP) : List Value := [.int .i64 x.k, .int .i64 x.n, .bool x.on]
def OP.fits (x : OP) : Prop := (-9223372036854775808 ≤ x.k ∧ x.k ≤ 9223372036854775807) ∧ (-9223372036854775808 ≤ x.n ∧ x.n ≤ 9223372036854775807)
def cellsX : List OP → List Value
  | [] => []
  | x :: l => x.cells ++ cellsX l
theorem cellsX_len : ∀ l : List OP, (cellsX l).length = 3 * l.length
  | [] => rfl
  | x :: l => by rw [cellsX, List.length_append, cellsX_len l]; simp [OP.cells]; omega
theorem cellsX_app : ∀ l m : List OP, cellsX (l ++ m) = cellsX l ++ cellsX m
  | [], m => rfl
  | x :: l, m => by rw [List.cons_append, cellsX, cellsX_app l m, cellsX, List.append_assoc]
theorem cellsX_at : ∀ (l : List OP) {j : Nat} (hj : j < l.length), (cellsX l)[j * 3]? = some (.int .i64 l[j].k) ∧ (cellsX l)[j * 3 + 1]? = some (.int .i64 l[j].n) ∧ (cellsX l)[j * 3 + 2]? = some (.bool l[j].on)
  | x :: l, 0, _ => ⟨rfl, rfl, rfl⟩
  | x :: l, j + 1, hj => by
    have ih := cellsX_at l (j := j) (by simpa using hj)
    have h3 : x.cells.length = 3 := rfl
    simp only [cellsX, List.getElem_cons_succ]
    refine ⟨?_, ?_, ?_⟩
    · rw [List.getElem?_append_right (by omega), h3, show (j + 1) * 3 - 3 = j * 3 by omega]; exact ih.1
    · rw [List.getElem?_append_right (by omega), h3, show (j + 1) * 3 + 1 - 3 = j * 3 + 1 by omega]; exact ih.2.1
    · rw [List.getElem?_append_right (by omega), h3, show (j + 1) * 3 + 2 - 3 = j * 3 + 2 by omega]; exact ih.2.2
/-- the slice (A, l.length, c) holds the calls l, below block B -/
def Xs (w : World) (B : Nat) (l : List OP) (A : Option Addr) (c : Nat) : Prop := l.length ≤ c ∧ l.length * 24 ≤ 140737488355328 ∧ (A = none → c = 0) ∧ Rd w B A (cellsX l) ∧ ∀ x ∈ l, x.fits
section
variable {w w' : World} {B B' : Nat} {l : List OP} {A : Option Addr} {c : Nat}
theorem Xs.below (h : Xs w B l A c) (hb : Below B w w') : Xs w' B l A c := ⟨h.1, h.2.1, h.2.2.1, h.2.2.2.1.keep fun _ hp => hb.cell hp, h.2.2.2.2⟩
theorem Xs.at_ (h : Xs w B l A c) {j : Nat} (hj : j < l.length) : ∃ b off, A = some ⟨b, off, none⟩ ∧ b < B ∧ w.cell? ⟨b, off + j * 3, none⟩ = some (.int .i64 l[j].k) ∧ w.cell? ⟨b, off + j * 3 + 1, none⟩ = some (.int .i64 l[j].n) ∧ w.cell? ⟨b, off + j * 3 + 2, none⟩ = some (.bool l[j].on) := by
  obtain ⟨c0, c1, c2⟩ := cellsX_at l hj
  obtain ⟨b, off, e, hb, h0⟩ := h.2.2.2.1 _ _ c0
  obtain ⟨b1, off1, e1, hb1, h1⟩ := h.2.2.2.1 _ _ c1
  obtain ⟨b2, off2, e2, hb2, h2⟩ := h.2.2.2.1 _ _ c2
  rw [e] at e1 e2
  cases e1
  cases e2
  exact ⟨b, off, e, hb, h0, by rw [Nat.add_assoc]; exact h1, by rw [Nat.add_assoc]; exact h2⟩
end

theorem all_mem {l : List Nat} (h : l.all (· ≤ reachBytes) = true) {n : Nat} (hn : n ∈ l) : n ≤ reachBytes := by
  simpa using List.all_eq_true.1 h n hn

/-- a list out of its elements -/
theorem gatherX (W : World) (a : Addr) (len : Nat) (h : ∀ i, i < len → ∃ x : OP, x.fits ∧ ∀ r u, x.cells[r]? = some u → W.cell? (a.add (i * 3 + r)) = some u) :
    ∃ l : List OP, l.length = len ∧ (∀ x ∈ l, x.fits) ∧ ∀ j u, (cellsX l)[j]? = some u → W.cell? (a.add j) = some u := by
  induction len with
  | zero => exact ⟨[], rfl, (fun x hx => by cases hx), fun j u h => by simp [cellsX] at h⟩
  | succ n ih =>
    obtain ⟨l, hl, hf, hc⟩ := ih (fun i hi => h i (by omega))
    obtain ⟨x, hx, hcs⟩ := h n (by omega)
    have hxl := cellsX_len l
    refine ⟨l ++ [x], by simp [hl], fun y hy => ?_, fun j u hj => ?_⟩
    · rcases List.mem_append.1 hy with e | e
      · exact hf y e
      · rw [List.mem_singleton.1 e]; exact hx
    · rw [cellsX_app] at hj
      rcases Nat.lt_or_ge j (cellsX l).length with hlt | hge
      · rw [List.getElem?_append_left hlt] at hj
        exact hc j u hj
      · rw [List.getElem?_append_right hge, show cellsX [x] = x.cells by simp [cellsX]] at hj
        have := hcs (j - (cellsX l).length) u hj
        rwa [show n * 3 + (j - (cellsX l).length) = j by omega] at this

section
variable {H : Type} {enc : TypeId × Value → H} {W : World}
end

end Go.Proofs.Ytoenkkbcpafanaa.powers
