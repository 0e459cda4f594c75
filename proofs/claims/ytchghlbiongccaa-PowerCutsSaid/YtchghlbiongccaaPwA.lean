/- Rows of a power's calls, in memory and as an argument. -/
import Derived.Test.YtchghlbiongccaaBase
import Derived.Test.YtchghlbiongccaaProg
import Derived.Lib.SmallJoins
import Derived.SizedLaws
import Derived.ProofKit
import Derived.OpenShut


namespace Go.Proofs.Ytchghlbiongccaa.powers
set_option linter.unusedVariables false
set_option linter.unusedSimpArgs false
open Go.RowKit Go.ChangeShapes Go.WideShapes Go.Proofs.Ytchghlbiongccaa.base

structure OP where
  k : Int
  n : Int
  on : Bool
def OP.cells (x : OP) : List Value := [.int .i64 x.k, .int .i64 x.n, .bool x.on]
def OP.fits (x : OP) : Prop := (-9223372036854775808 ≤ x.k ∧ x.k ≤ 9223372036854775807) ∧ (-9223372036854775808 ≤ x.n ∧ x.n ≤ 9223372036854775807)
def cellsX : List OP → List Value
  | [] => []
  | x :: l => x.cells ++ cellsX l
theorem cellsX_len : ∀ l : List OP, (cellsX l).length = 3 * l.length
  | [] => rfl
  | x :: l => by rw [cellsX, List.length_append, cellsX_len l]; simp [OP.cells]; omega
theorem cellsX_app : ∀ l m : List OP, cellsX (l ++ m) = cellsX l ++ cellsX m
  | [], m => rfl
  | x :: l, m => by rw [List.cons_append, cellsX, cellsX_app l m, cellsX, List.append_assoc]
theorem cellsX_at : ∀ (l : List OP) {j : Nat} (hj : j < l.length), (cellsX l)[j * 3]? = some (.int .i64 l[j].k) ∧ (cellsX l)[j * 3 + 1]? = some (.int .i64 l[j].n) ∧ (cellsX l)[j * 3 + 2]? = some (.bool l[j].on)
  | x :: l, 0, _ => ⟨rfl, rfl, rfl⟩
  | x :: l, j + 1, hj => by
    have ih := cellsX_at l (j := j) (by simpa using hj)
    have h3 : x.cells.length = 3 := rfl
    simp only [cellsX, List.getElem_cons_succ]
    refine ⟨?_, ?_, ?_⟩
    · rw [List.getElem?_append_right (by omega), h3, show (j + 1) * 3 - 3 = j * 3 by omega]; exact ih.1
    · rw [List.getElem?_append_right (by omega), h3, show (j + 1) * 3 + 1 - 3 = j * 3 + 1 by omega]; exact ih.2.1
    · rw [List.getElem?_append_right (by omega), h3, show (j + 1) * 3 + 2 - 3 = j * 3 + 2 by omega]; exact ih.2.2
/-- the slice (A, l.length, c) holds the calls l, below block B -/
def Xs (w : World) (B : Nat) (l : List OP) (A : Option Addr) (c : Nat) : Prop := l.length ≤ c ∧ l.length * 24 ≤ 140737488355328 ∧ (A = none → c = 0) ∧ Rd w B A (cellsX l) ∧ ∀ x ∈ l, x.fits
section
variable {w w' : World} {B B' : Nat} {l : List OP} {A : Option Addr} {c : Nat}
theorem Xs.below (h : Xs w B l A c) (hb : Below B w w') : Xs w' B l A c := ⟨h.1, h.2.1, h.2.2.1, h.2.2.2.1.keep fun _ hp => hb.cell hp, h.2.2.2.2⟩
theorem Xs.at_ (h : Xs w B l A c) {j : Nat} (hj : j < l.length) : ∃ b off, A = some ⟨b, off, none⟩ ∧ b < B ∧ w.cell? ⟨b, off + j * 3, none⟩ = some (.int .i64 l[j].k) ∧ w.cell? ⟨b, off + j * 3 + 1, none⟩ = some (.int .i64 l[j].n) ∧ w.cell? ⟨b, off + j * 3 + 2, none⟩ = some (.bool l[j].on) := by
  obtain ⟨c0, c1, c2⟩ := cellsX_at l hj
  obtain ⟨b, off, e, hb, h0⟩ := h.2.2.2.1 _ _ c0
  obtain ⟨b1, off1, e1, hb1, h1⟩ := h.2.2.2.1 _ _ c1
  obtain ⟨b2, off2, e2, hb2, h2⟩ := h.2.2.2.1 _ _ c2
  rw [e] at e1 e2
  cases e1
  cases e2
  exact ⟨b, off, e, hb, h0, by rw [Nat.add_assoc]; exact h1, by rw [Nat.add_assoc]; exact h2⟩
end

theorem all_mem {l : List Nat} (h : l.all (· ≤ reachBytes) = true) {n : Nat} (hn : n ∈ l) : n ≤ reachBytes := by
  simpa using List.all_eq_true.1 h n hn

/-- a list out of its elements -/
theorem gatherX (W : World) (a : Addr) (len : Nat) (h : ∀ i, i < len → ∃ x : OP, x.fits ∧ ∀ r u, x.cells[r]? = some u → W.cell? (a.add (i * 3 + r)) = some u) :
    ∃ l : List OP, l.length = len ∧ (∀ x ∈ l, x.fits) ∧ ∀ j u, (cellsX l)[j]? = some u → W.cell? (a.add j) = some u := by
  induction len with
  | zero => exact ⟨[], rfl, (fun x hx => by cases hx), fun j u h => by simp [cellsX] at h⟩
  | succ n ih =>
    obtain ⟨l, hl, hf, hc⟩ := ih (fun i hi => h i (by omega))
    obtain ⟨x, hx, hcs⟩ := h n (by omega)
    have hxl := cellsX_len l
    refine ⟨l ++ [x], by simp [hl], fun y hy => ?_, fun j u hj => ?_⟩
    · rcases List.mem_append.1 hy with e | e
      · exact hf y e
      · rw [List.mem_singleton.1 e]; exact hx
    · rw [cellsX_app] at hj
      rcases Nat.lt_or_ge j (cellsX l).length with hlt | hge
      · rw [List.getElem?_append_left hlt] at hj
        exact hc j u hj
      · rw [List.getElem?_append_right hge, show cellsX [x] = x.cells by simp [cellsX]] at hj
        have := hcs (j - (cellsX l).length) u hj
        rwa [show n * 3 + (j - (cellsX l).length) = j by omega] at this

theorem bytes40 : Try.prog.bytesOf 29 = 24 := by kernel_rfl
theorem cells3 : Try.prog.cellsOf 29 = 3 := by kernel_rfl
section
variable {H : Type} {enc : TypeId × Value → H} {W : World}
set_option maxRecDepth 100000 in
theorem open_op {m : Nat} {cs : List Value} {x : DataW H × List MemPlace} (h : DataW.trod enc Try.prog W 0 (fun _ => true) true m 29 cs = some x) : ∃ y : OP, cs = y.cells ∧ y.fits := by
  obtain ⟨ys, n, hn, hx, hlen, hyl, hf⟩ := DataW.trod_struct Try.underlying29 h
  rw [cells3] at hlen
  match cs, hlen, ys, hyl with
  | [c0, c1, c2], _, [y0, y1, y2], _ =>
    have k3 : Try.prog.cellsOf 3 = 1 := by kernel_rfl
    have k9 : Try.prog.cellsOf 4 = 1 := by kernel_rfl
    have f0 : DataW.trod enc Try.prog W 0 (fun _ => true) true n 3 (List.take (Try.prog.cellsOf 3) (List.drop 0 [c0, c1, c2])) = some y0 := hf 0 _ rfl
    have f1 : DataW.trod enc Try.prog W 0 (fun _ => true) true n 3 (List.take (Try.prog.cellsOf 3) (List.drop 1 [c0, c1, c2])) = some y1 := hf 1 _ rfl
    have f2 : DataW.trod enc Try.prog W 0 (fun _ => true) true n 4 (List.take (Try.prog.cellsOf 4) (List.drop 2 [c0, c1, c2])) = some y2 := hf 2 _ rfl
    rw [k3] at f0 f1
    rw [k9] at f2
    obtain ⟨k, e0, _, w0⟩ := DataW.trod_int Try.underlying3 f0
    obtain ⟨s, e1, _, w1⟩ := DataW.trod_int Try.underlying3 f1
    obtain ⟨t, e2, _⟩ := DataW.trod_bool Try.underlying4 f2
    simp at e0 e1 e2
    subst e0 e1 e2
    simp [Lit.wf, IntKind.has] at w0 w1
    have h1 : IntKind.i64.min = -9223372036854775808 := rfl
    have h2 : IntKind.i64.max = 9223372036854775807 := rfl
    exact ⟨⟨k, s, t⟩, rfl, ⟨by show _ ≤ k; omega, by show k ≤ _; omega⟩, ⟨by show _ ≤ s; omega, by show s ≤ _; omega⟩⟩

set_option maxRecDepth 100000 in
theorem open_xs {m : Nat} {cs : List Value} {x : DataW H × List MemPlace} (h : DataW.trod enc Try.prog W 0 (fun _ => true) true m 22 cs = some x) (hw : (x.1.weights Try.prog 22).all (· ≤ reachBytes) = true) :
    ∃ (l : List OP) (A : Option Addr) (c : Nat), cs = [.slice A l.length c] ∧ Xs W W.heap.size l A c := by
  rcases DataW.trod_slice Try.underlying22 h with ⟨rfl, _⟩ | ⟨a, len, cap, elems, rest, n, hn, rfl, rfl, _, hlc, hcm, hlen, hel, hsp, _⟩
  · exact ⟨[], none, 0, rfl, Nat.le_refl _, by simp, (fun _ => rfl), Rd.nil _ _ _, fun x hx => by cases hx⟩
  · have hrest := (hsp rfl).1
    have hcap : cap * 24 ≤ reachBytes := by
      refine all_mem hw ?_
      simp only [DataW.weights, Try.underlying22, bytes40, List.length_map]
      rw [show elems.length + rest.length = cap by omega]
      exact List.mem_cons_self
    have hr47 : reachBytes ≤ 140737488355328 := by decide
    obtain ⟨l, hl, hf, hc⟩ := gatherX W a len (fun i hi => by
      have h1 := hel i hi
      rw [cells3] at h1
      have hie : elems[i]? = some elems[i] := List.getElem?_eq_getElem (by omega)
      rw [hie] at h1
      obtain ⟨cs', hcs, htr⟩ := Option.bind_eq_some_iff.1 h1
      obtain ⟨_, hcl, hat⟩ := World.cells?_some hcs
      obtain ⟨y, rfl, hy⟩ := open_op htr
      refine ⟨y, hy, fun r u hr => ?_⟩
      have hr3 : r < 3 := by have := (List.getElem?_eq_some_iff.1 hr).1; simpa [OP.cells] using this
      have := hat r hr3
      rw [Go.Deep.add_add] at this
      rw [this, hr])
    subst hl
    refine ⟨l, some a, cap, rfl, hlc, by omega, (fun e => by cases e), fun j u hj => ?_, hf⟩
    have hpos : 0 < (cellsX l).length := by have := (List.getElem?_eq_some_iff.1 hj).1; omega
    have h0 := hc 0 (cellsX l)[0] (List.getElem?_eq_getElem hpos)
    rw [show a.add 0 = a by simp [Addr.add]] at h0
    obtain ⟨b, off, rfl⟩ := plain_of_cell h0
    refine ⟨b, off, rfl, World.block_lt_of_cell? W _ h0, ?_⟩
    have := hc j u hj
    rwa [base.add_plain] at this

set_option maxRecDepth 100000 in
theorem open_ops_arg {r : Reach} {b0 : Nat} {v : Value} {d : DataW H} {p : List MemPlace} (hv : Value.okWide Try.prog W r b0 22 v) (h : DataW.Trod enc Try.prog W 0 (fun _ => true) true 22 v d p)
    (hw : (d.weights Try.prog 22).all (· ≤ reachBytes) = true) : ∃ (l : List OP) (A : Option Addr) (c : Nat), v = .slice A l.length c ∧ Xs W W.heap.size l A c := by
  obtain ⟨a, len, cap, rfl⟩ := okWide_slice Try.underlying22 hv
  obtain ⟨m, hm⟩ := h
  obtain ⟨l, A, c, hcs, h1⟩ := open_xs hm hw
  simp [Value.cells] at hcs
  obtain ⟨rfl, rfl, rfl⟩ := hcs
  exact ⟨l, a, cap, rfl, h1⟩
end

end Go.Proofs.Ytchghlbiongccaa.powers
