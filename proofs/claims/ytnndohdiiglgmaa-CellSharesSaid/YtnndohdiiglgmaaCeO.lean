/- The arguments of cell's laws. -/
import Derived.Test.YtnndohdiiglgmaaBase
import Derived.Test.YtnndohdiiglgmaaProg
import Derived.Lib.SmallJoins
import Derived.SizedLaws
import Derived.ProofKit
import Derived.OpenShut


namespace Go.Proofs.Ytnndohdiiglgmaa.cells
set_option linter.unusedVariables false
set_option linter.unusedSimpArgs false
open Go.RowKit Go.ChangeShapes Go.WideShapes Go.Proofs.Ytnndohdiiglgmaa.base

structure CO where
  k : Int
  on : Bool
  sl : Int
  b : ByteArray
def CO.cells (x : CO) : List Value := [.int .i64 x.k, .bool x.on, .int .i64 x.sl, .string x.b]
abbrev CO.v (x : CO) : Value := .agg #[.int .i64 x.k, .bool x.on, .int .i64 x.sl, .string x.b]
def CO.fits (x : CO) : Prop := (-9223372036854775808 ≤ x.k ∧ x.k ≤ 9223372036854775807) ∧ (-9223372036854775808 ≤ x.sl ∧ x.sl ≤ 9223372036854775807) ∧ x.b.size ≤ maxLen
def cellsC : List CO → List Value
  | [] => []
  | x :: l => x.cells ++ cellsC l
theorem cellsC_len : ∀ l : List CO, (cellsC l).length = l.length * 4
  | [] => rfl
  | x :: l => by rw [cellsC, List.length_append, cellsC_len l]; simp [CO.cells]; omega
theorem cellsC_app : ∀ l m : List CO, cellsC (l ++ m) = cellsC l ++ cellsC m
  | [], m => rfl
  | x :: l, m => by rw [List.cons_append, cellsC, cellsC_app l m, cellsC, List.append_assoc]
theorem cellsC_at : ∀ (l : List CO) {j : Nat} (hj : j < l.length), (cellsC l)[j * 4]? = some (.int .i64 l[j].k) ∧ (cellsC l)[j * 4 + 1]? = some (.bool l[j].on) ∧ (cellsC l)[j * 4 + 2]? = some (.int .i64 l[j].sl) ∧ (cellsC l)[j * 4 + 3]? = some (.string l[j].b)
  | x :: l, 0, _ => ⟨rfl, rfl, rfl, rfl⟩
  | x :: l, j + 1, hj => by
    have ih := cellsC_at l (j := j) (by simpa using hj)
    have h3 : x.cells.length = 4 := rfl
    simp only [cellsC, List.getElem_cons_succ]
    obtain ⟨i0, i1, i2, i3⟩ := ih
    refine ⟨?_, ?_, ?_, ?_⟩
    · rw [List.getElem?_append_right (by omega), h3, show (j + 1) * 4 - 4 = j * 4 by omega]; exact i0
    · rw [List.getElem?_append_right (by omega), h3, show (j + 1) * 4 + 1 - 4 = j * 4 + 1 by omega]; exact i1
    · rw [List.getElem?_append_right (by omega), h3, show (j + 1) * 4 + 2 - 4 = j * 4 + 2 by omega]; exact i2
    · rw [List.getElem?_append_right (by omega), h3, show (j + 1) * 4 + 3 - 4 = j * 4 + 3 by omega]; exact i3
/-- raw in a row, below block B -/
def Cs (w : World) (B : Nat) (l : List CO) (A : Option Addr) (c : Nat) : Prop := l.length ≤ c ∧ l.length * 40 ≤ 140737488355328 ∧ (A = none → c = 0) ∧ Rd w B A (cellsC l) ∧ ∀ x ∈ l, x.fits
theorem Cs.below {w w' : World} {B : Nat} {l : List CO} {A : Option Addr} {c : Nat} (h : Cs w B l A c) (hb : Below B w w') : Cs w' B l A c := ⟨h.1, h.2.1, h.2.2.1, h.2.2.2.1.keep fun _ hp => hb.cell hp, h.2.2.2.2⟩
theorem Cs.more {w : World} {B B' : Nat} {l : List CO} {A : Option Addr} {c : Nat} (h : Cs w B l A c) (hB : B ≤ B') : Cs w B' l A c := ⟨h.1, h.2.1, h.2.2.1, h.2.2.2.1.more hB, h.2.2.2.2⟩
theorem Cs.at_world {w wr : World} {l : List CO} {A : Option Addr} {c : Nat} (h : Cs w w.heap.size l A c) (hb : Below w.heap.size w wr) : Cs wr wr.heap.size l A c := (h.below hb).more hb.size
theorem Cs.at_ {w : World} {B : Nat} {l : List CO} {A : Option Addr} {c : Nat} (h : Cs w B l A c) {j : Nat} (hj : j < l.length) : ∃ b off, A = some ⟨b, off, none⟩ ∧ b < B ∧ w.cell? ⟨b, off + j * 4, none⟩ = some (.int .i64 l[j].k) ∧ w.cell? ⟨b, off + j * 4 + 1, none⟩ = some (.bool l[j].on) ∧ w.cell? ⟨b, off + j * 4 + 2, none⟩ = some (.int .i64 l[j].sl) ∧ w.cell? ⟨b, off + j * 4 + 3, none⟩ = some (.string l[j].b) := by
  obtain ⟨c0, c1, c2, c3⟩ := cellsC_at l hj
  obtain ⟨b, off, e, hb, h0⟩ := h.2.2.2.1 _ _ c0
  obtain ⟨b1, off1, e1, hb1, h1⟩ := h.2.2.2.1 _ _ c1
  rw [e] at e1
  cases e1
  obtain ⟨b2, off2, e2, hb2, h2⟩ := h.2.2.2.1 _ _ c2
  rw [e] at e2
  cases e2
  obtain ⟨b3, off3, e3, hb3, h3⟩ := h.2.2.2.1 _ _ c3
  rw [e] at e3
  cases e3
  exact ⟨b, off, e, hb, h0, by rw [Nat.add_assoc]; exact h1, by rw [Nat.add_assoc]; exact h2, by rw [Nat.add_assoc]; exact h3⟩
/-- a list out of its elements -/
theorem gatherC (W : World) (a : Addr) (len : Nat) (h : ∀ i, i < len → ∃ x : CO, x.fits ∧ ∀ r u, x.cells[r]? = some u → W.cell? (a.add (i * 4 + r)) = some u) :
    ∃ l : List CO, l.length = len ∧ (∀ x ∈ l, x.fits) ∧ ∀ j u, (cellsC l)[j]? = some u → W.cell? (a.add j) = some u := by
  induction len with
  | zero => exact ⟨[], rfl, (fun x hx => by cases hx), fun j u h => by simp [cellsC] at h⟩
  | succ n ih =>
    obtain ⟨l, hl, hf, hc⟩ := ih (fun i hi => h i (by omega))
    obtain ⟨x, hx, hcs⟩ := h n (by omega)
    have hxl := cellsC_len l
    refine ⟨l ++ [x], by simp [hl], fun y hy => ?_, fun j u hj => ?_⟩
    · rcases List.mem_append.1 hy with e | e
      · exact hf y e
      · rw [List.mem_singleton.1 e]; exact hx
    · rw [cellsC_app] at hj
      rcases Nat.lt_or_ge j (cellsC l).length with hlt | hge
      · rw [List.getElem?_append_left hlt] at hj
        exact hc j u hj
      · rw [List.getElem?_append_right hge, show cellsC [x] = x.cells by simp [cellsC]] at hj
        have := hcs (j - (cellsC l).length) u hj
        rwa [show n * 4 + (j - (cellsC l).length) = j by omega] at this
theorem bytesC : Try.prog.bytesOf 80 = 40 := by kernel_rfl
theorem cellsCOf : Try.prog.cellsOf 80 = 4 := by kernel_rfl
theorem mem_allC {l : List Nat} (h : l.all (· ≤ reachBytes) = true) {n : Nat} (hn : n ∈ l) : n ≤ reachBytes := by
  simpa using List.all_eq_true.1 h n hn
section
variable {H : Type} {enc : TypeId × Value → H} {W : World}
set_option maxRecDepth 100000 in
theorem openC_one {m : Nat} {cs : List Value} {x : DataW H × List MemPlace} (h : DataW.trod enc Try.prog W 0 (fun _ => true) true m 80 cs = some x) : ∃ y : CO, cs = y.cells ∧ y.fits := by
  obtain ⟨ys, n, hn, hx, hlen, hyl, hf⟩ := DataW.trod_struct Try.underlying80 h
  rw [cellsCOf] at hlen
  match cs, hlen, ys, hyl with
  | [c0, c1, c2, c3], _, [y0, y1, y2, y3], _ =>
    have f0 : DataW.trod enc Try.prog W 0 (fun _ => true) true n 3 (List.take (Try.prog.cellsOf 3) (List.drop 0 [c0, c1, c2, c3])) = some y0 := hf 0 _ rfl
    rw [show Try.prog.cellsOf 3 = 1 by kernel_rfl] at f0
    have f1 : DataW.trod enc Try.prog W 0 (fun _ => true) true n 4 (List.take (Try.prog.cellsOf 4) (List.drop 1 [c0, c1, c2, c3])) = some y1 := hf 1 _ rfl
    rw [show Try.prog.cellsOf 4 = 1 by kernel_rfl] at f1
    have f2 : DataW.trod enc Try.prog W 0 (fun _ => true) true n 3 (List.take (Try.prog.cellsOf 3) (List.drop 2 [c0, c1, c2, c3])) = some y2 := hf 2 _ rfl
    rw [show Try.prog.cellsOf 3 = 1 by kernel_rfl] at f2
    have f3 : DataW.trod enc Try.prog W 0 (fun _ => true) true n 9 (List.take (Try.prog.cellsOf 9) (List.drop 3 [c0, c1, c2, c3])) = some y3 := hf 3 _ rfl
    rw [show Try.prog.cellsOf 9 = 1 by kernel_rfl] at f3
    obtain ⟨v0, e0, _, w0⟩ := DataW.trod_int Try.underlying3 f0
    obtain ⟨v1, e1, _⟩ := DataW.trod_bool Try.underlying4 f1
    obtain ⟨v2, e2, _, w2⟩ := DataW.trod_int Try.underlying3 f2
    obtain ⟨v3, e3, _, w3⟩ := DataW.trod_string Try.underlying9 f3
    simp at e0 e1 e2 e3
    subst e0 e1 e2 e3
    simp [Lit.wf, IntKind.has] at w0 w2
    have h1 : IntKind.i64.min = -9223372036854775808 := rfl
    have h2 : IntKind.i64.max = 9223372036854775807 := rfl
    have h3 : IntKind.u64.min = 0 := rfl
    have h4 : IntKind.u64.max = 18446744073709551615 := rfl
    exact ⟨⟨v0, v1, v2, v3⟩, rfl, ⟨by show _ ≤ v0; omega, by show v0 ≤ _; omega⟩, ⟨by show _ ≤ v2; omega, by show v2 ≤ _; omega⟩, w3⟩
set_option maxRecDepth 100000 in
theorem openC_row {m : Nat} {cs : List Value} {x : DataW H × List MemPlace} (h : DataW.trod enc Try.prog W 0 (fun _ => true) true m 69 cs = some x) (hw : (x.1.weights Try.prog 69).all (· ≤ reachBytes) = true) :
    ∃ (l : List CO) (A : Option Addr) (c : Nat), cs = [.slice A l.length c] ∧ Cs W W.heap.size l A c := by
  rcases DataW.trod_slice Try.underlying69 h with ⟨rfl, _⟩ | ⟨a, len, cap, elems, rest, n, hn, rfl, rfl, _, hlc, hcm, hlen, hel, hsp, _⟩
  · exact ⟨[], none, 0, rfl, Nat.le_refl _, by simp, (fun _ => rfl), Rd.nil _ _ _, fun x hx => by cases hx⟩
  · have hrest := (hsp rfl).1
    have hcap : cap * 40 ≤ reachBytes := by
      refine mem_allC hw ?_
      simp only [DataW.weights, Try.underlying69, bytesC, List.length_map]
      rw [show elems.length + rest.length = cap by omega]
      exact List.mem_cons_self
    have hr47 : reachBytes ≤ 140737488355328 := by decide
    obtain ⟨l, hl, hf, hc⟩ := gatherC W a len (fun i hi => by
      have h1 := hel i hi
      rw [cellsCOf] at h1
      have hie : elems[i]? = some elems[i] := List.getElem?_eq_getElem (by omega)
      rw [hie] at h1
      obtain ⟨cs', hcs, htr⟩ := Option.bind_eq_some_iff.1 h1
      obtain ⟨_, hcl, hat⟩ := World.cells?_some hcs
      obtain ⟨y, rfl, hy⟩ := openC_one htr
      refine ⟨y, hy, fun r u hr => ?_⟩
      have hr3 : r < 4 := by have := (List.getElem?_eq_some_iff.1 hr).1; simpa [CO.cells] using this
      have := hat r hr3
      rw [Go.Deep.add_add] at this
      rw [this, hr])
    subst hl
    refine ⟨l, some a, cap, rfl, hlc, by omega, (fun e => by cases e), fun j u hj => ?_, hf⟩
    have hpos : 0 < (cellsC l).length := by have := (List.getElem?_eq_some_iff.1 hj).1; omega
    have h0 := hc 0 (cellsC l)[0] (List.getElem?_eq_getElem hpos)
    rw [show a.add 0 = a by simp [Addr.add]] at h0
    obtain ⟨b, off, rfl⟩ := plain_of_cell h0
    refine ⟨b, off, rfl, World.block_lt_of_cell? W _ h0, ?_⟩
    have := hc j u hj
    rwa [base.add_plain] at this
set_option maxRecDepth 100000 in
theorem openC_arg {r : Reach} {b0 : Nat} {v : Value} {d : DataW H} {p : List MemPlace} (hv : Value.okWide Try.prog W r b0 69 v) (h : DataW.Trod enc Try.prog W 0 (fun _ => true) true 69 v d p)
    (hw : (d.weights Try.prog 69).all (· ≤ reachBytes) = true) : ∃ (l : List CO) (A : Option Addr) (c : Nat), v = .slice A l.length c ∧ Cs W W.heap.size l A c := by
  obtain ⟨a, len, cap, rfl⟩ := okWide_slice Try.underlying69 hv
  obtain ⟨m, hm⟩ := h
  obtain ⟨l, A, c, hcs, h1⟩ := openC_row hm hw
  simp [Value.cells] at hcs
  obtain ⟨rfl, rfl, rfl⟩ := hcs
  exact ⟨l, a, cap, rfl, h1⟩
end

/-- a slice of ints that came in -/
theorem ints_of_row {w : World} {a : Option Addr} {len cap : Nat} {zs : List Int}
    (h : (a = none ∧ len = 0 ∧ cap = 0 ∧ zs = []) ∨
      ∃ x, a = some x ∧ len ≤ cap ∧ cap ≤ maxLen ∧ zs.length = cap ∧ (∀ i, i < zs.length → w.cell? (x.add i) = some (.int .i64 (zs.getD i 0))) ∧ ∀ n ∈ zs, (Lit.int .i64 n).wf = true) :
    ∃ ks : List Int, len = ks.length ∧ Rd w w.heap.size a (ks.map (Value.int .i64)) ∧ ks.length ≤ maxLen ∧ ∀ k ∈ ks, -9223372036854775808 ≤ k ∧ k ≤ 9223372036854775807 := by
  have r := of_row h
  refine ⟨zs.take len, r.2.1.symm, r.1, by rw [r.2.1]; exact r.2.2.2.2.1, fun k hk => ?_⟩
  have hw := r.2.2.2.2.2 k hk
  have e1 : IntKind.i64.min = -9223372036854775808 := rfl
  have e2 : IntKind.i64.max = 9223372036854775807 := rfl
  simp [Lit.wf, IntKind.has] at hw
  omega
end Go.Proofs.Ytnndohdiiglgmaa.cells
