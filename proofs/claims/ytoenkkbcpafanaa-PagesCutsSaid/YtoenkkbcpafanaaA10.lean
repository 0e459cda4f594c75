/- The arguments of medium's laws. -/
import Derived.Test.YtoenkkbcpafanaaA07
import Derived.Test.YtoenkkbcpafanaaProg
import Derived.Lib.SmallJoins
import Derived.SizedLaws
import Derived.ProofKit
import Derived.OpenShut
import Derived.Test.YtoenkkbcpafanaaA09


namespace Go.Proofs.Ytoenkkbcpafanaa.mediums
set_option linter.unusedVariables false
set_option linter.unusedSimpArgs false
open Go.RowKit Go.ChangeShapes Go.WideShapes Go.Proofs.Ytoenkkbcpafanaa.base

structure MO where
  k : Int
  on : Bool
  g : Int
  o : Int
  n : Int
  b : ByteArray
def MO.cells (x : MO) : List Value := [.int .i64 x.k, .bool x.on, .int .i64 x.g, .int .i64 x.o, .int .i64 x.n, .string x.b]
abbrev MO.v (x : MO) : Value := .agg #[.int .i64 x.k, .bool x.on, .int .i64 x.g, .int .i64 x.o, .int .i64 x.n, .string x.b]
def MO.fits (x : MO) : Prop := (-9223372036854775808 ≤ x.k ∧ x.k ≤ 9223372036854775807) ∧ (-9223372036854775808 ≤ x.g ∧ x.g ≤ 9223372036854775807) ∧ (-9223372036854775808 ≤ x.o ∧ x.o ≤ 9223372036854775807) ∧ (-9223372036854775808 ≤ x.n ∧ x.n ≤ 9223372036854775807) ∧ x.b.size ≤ maxLen
def cellsO : List MO → List Value
  | [] => []
  | x :: l => x.cells ++ cellsO l
theorem cellsO_len : ∀ l : List MO, (cellsO l).length = l.length * 6
  | [] => rfl
  | x :: l => by rw [cellsO, List.length_append, cellsO_len l]; simp [MO.cells]; omega
theorem cellsO_app : ∀ l m : List MO, cellsO (l ++ m) = cellsO l ++ cellsO m
  | [], m => rfl
  | x :: l, m => by rw [List.cons_append, cellsO, cellsO_app l m, cellsO, List.append_assoc]
theorem cellsO_at : ∀ (l : List MO) {j : Nat} (hj : j < l.length), (cellsO l)[j * 6]? = some (.int .i64 l[j].k) ∧ (cellsO l)[j * 6 + 1]? = some (.bool l[j].on) ∧ (cellsO l)[j * 6 + 2]? = some (.int .i64 l[j].g) ∧ (cellsO l)[j * 6 + 3]? = some (.int .i64 l[j].o) ∧ (cellsO l)[j * 6 + 4]? = some (.int .i64 l[j].n) ∧ (cellsO l)[j * 6 + 5]? = some (.string l[j].b)
  | x :: l, 0, _ => ⟨rfl, rfl, rfl, rfl, rfl, rfl⟩
  | x :: l, j + 1, hj => by
    have ih := cellsO_at l (j := j) (by simpa using hj)
    have h3 : x.cells.length = 6 := rfl
    simp only [cellsO, List.getElem_cons_succ]
    obtain ⟨i0, i1, i2, i3, i4, i5⟩ := ih
    refine ⟨?_, ?_, ?_, ?_, ?_, ?_⟩
    · rw [List.getElem?_append_right (by omega), h3, show (j + 1) * 6 - 6 = j * 6 by omega]; exact i0
    · rw [List.getElem?_append_right (by omega), h3, show (j + 1) * 6 + 1 - 6 = j * 6 + 1 by omega]; exact i1
    · rw [List.getElem?_append_right (by omega), h3, show (j + 1) * 6 + 2 - 6 = j * 6 + 2 by omega]; exact i2
    · rw [List.getElem?_append_right (by omega), h3, show (j + 1) * 6 + 3 - 6 = j * 6 + 3 by omega]; exact i3
    · rw [List.getElem?_append_right (by omega), h3, show (j + 1) * 6 + 4 - 6 = j * 6 + 4 by omega]; exact i4
    · rw [List.getElem?_append_right (by omega), h3, show (j + 1) * 6 + 5 - 6 = j * 6 + 5 by omega]; exact i5
/-- raw in a row, below block B -/
def Os (w : World) (B : Nat) (l : List MO) (A : Option Addr) (c : Nat) : Prop := l.length ≤ c ∧ l.length * 56 ≤ 140737488355328 ∧ (A = none → c = 0) ∧ Rd w B A (cellsO l) ∧ ∀ x ∈ l, x.fits
theorem Os.below {w w' : World} {B : Nat} {l : List MO} {A : Option Addr} {c : Nat} (h : Os w B l A c) (hb : Below B w w') : Os w' B l A c := ⟨h.1, h.2.1, h.2.2.1, h.2.2.2.1.keep fun _ hp => hb.cell hp, h.2.2.2.2⟩
theorem Os.more {w : World} {B B' : Nat} {l : List MO} {A : Option Addr} {c : Nat} (h : Os w B l A c) (hB : B ≤ B') : Os w B' l A c := ⟨h.1, h.2.1, h.2.2.1, h.2.2.2.1.more hB, h.2.2.2.2⟩
theorem Os.at_world {w wr : World} {l : List MO} {A : Option Addr} {c : Nat} (h : Os w w.heap.size l A c) (hb : Below w.heap.size w wr) : Os wr wr.heap.size l A c := (h.below hb).more hb.size
theorem Os.at_ {w : World} {B : Nat} {l : List MO} {A : Option Addr} {c : Nat} (h : Os w B l A c) {j : Nat} (hj : j < l.length) : ∃ b off, A = some ⟨b, off, none⟩ ∧ b < B ∧ w.cell? ⟨b, off + j * 6, none⟩ = some (.int .i64 l[j].k) ∧ w.cell? ⟨b, off + j * 6 + 1, none⟩ = some (.bool l[j].on) ∧ w.cell? ⟨b, off + j * 6 + 2, none⟩ = some (.int .i64 l[j].g) ∧ w.cell? ⟨b, off + j * 6 + 3, none⟩ = some (.int .i64 l[j].o) ∧ w.cell? ⟨b, off + j * 6 + 4, none⟩ = some (.int .i64 l[j].n) ∧ w.cell? ⟨b, off + j * 6 + 5, none⟩ = some (.string l[j].b) := by
  obtain ⟨c0, c1, c2, c3, c4, c5⟩ := cellsO_at l hj
  obtain ⟨b, off, e, hb, h0⟩ := h.2.2.2.1 _ _ c0
  obtain ⟨b1, off1, e1, hb1, h1⟩ := h.2.2.2.1 _ _ c1
  rw [e] at e1
  cases e1
  obtain ⟨b2, off2, e2, hb2, h2⟩ := h.2.2.2.1 _ _ c2
  rw [e] at e2
  cases e2
  obtain ⟨b3, off3, e3, hb3, h3⟩ := h.2.2.2.1 _ _ c3
  rw [e] at e3
  cases e3
  obtain ⟨b4, off4, e4, hb4, h4⟩ := h.2.2.2.1 _ _ c4
  rw [e] at e4
  cases e4
  obtain ⟨b5, off5, e5, hb5, h5⟩ := h.2.2.2.1 _ _ c5
  rw [e] at e5
  cases e5
  exact ⟨b, off, e, hb, h0, by rw [Nat.add_assoc]; exact h1, by rw [Nat.add_assoc]; exact h2, by rw [Nat.add_assoc]; exact h3, by rw [Nat.add_assoc]; exact h4, by rw [Nat.add_assoc]; exact h5⟩
/-- a list out of its elements -/
theorem gatherO (W : World) (a : Addr) (len : Nat) (h : ∀ i, i < len → ∃ x : MO, x.fits ∧ ∀ r u, x.cells[r]? = some u → W.cell? (a.add (i * 6 + r)) = some u) :
    ∃ l : List MO, l.length = len ∧ (∀ x ∈ l, x.fits) ∧ ∀ j u, (cellsO l)[j]? = some u → W.cell? (a.add j) = some u := by
  induction len with
  | zero => exact ⟨[], rfl, (fun x hx => by cases hx), fun j u h => by simp [cellsO] at h⟩
  | succ n ih =>
    obtain ⟨l, hl, hf, hc⟩ := ih (fun i hi => h i (by omega))
    obtain ⟨x, hx, hcs⟩ := h n (by omega)
    have hxl := cellsO_len l
    refine ⟨l ++ [x], by simp [hl], fun y hy => ?_, fun j u hj => ?_⟩
    · rcases List.mem_append.1 hy with e | e
      · exact hf y e
      · rw [List.mem_singleton.1 e]; exact hx
    · rw [cellsO_app] at hj
      rcases Nat.lt_or_ge j (cellsO l).length with hlt | hge
      · rw [List.getElem?_append_left hlt] at hj
        exact hc j u hj
      · rw [List.getElem?_append_right hge, show cellsO [x] = x.cells by simp [cellsO]] at hj
        have := hcs (j - (cellsO l).length) u hj
        rwa [show n * 6 + (j - (cellsO l).length) = j by omega] at this
theorem mem_allO {l : List Nat} (h : l.all (· ≤ reachBytes) = true) {n : Nat} (hn : n ∈ l) : n ≤ reachBytes := by
  simpa using List.all_eq_true.1 h n hn
section
variable {H : Type} {enc : TypeId × Value → H} {W : World}
end

structure MR where
  g : Int
  o : Int
  b : ByteArray
def MR.cells (x : MR) : List Value := [.int .i64 x.g, .int .i64 x.o, .string x.b]
abbrev MR.v (x : MR) : Value := .agg #[.int .i64 x.g, .int .i64 x.o, .string x.b]
def MR.fits (x : MR) : Prop := (-9223372036854775808 ≤ x.g ∧ x.g ≤ 9223372036854775807) ∧ (-9223372036854775808 ≤ x.o ∧ x.o ≤ 9223372036854775807) ∧ x.b.size ≤ maxLen
def cellsQ : List MR → List Value
  | [] => []
  | x :: l => x.cells ++ cellsQ l
theorem cellsQ_len : ∀ l : List MR, (cellsQ l).length = l.length * 3
  | [] => rfl
  | x :: l => by rw [cellsQ, List.length_append, cellsQ_len l]; simp [MR.cells]; omega
theorem cellsQ_app : ∀ l m : List MR, cellsQ (l ++ m) = cellsQ l ++ cellsQ m
  | [], m => rfl
  | x :: l, m => by rw [List.cons_append, cellsQ, cellsQ_app l m, cellsQ, List.append_assoc]
theorem cellsQ_at : ∀ (l : List MR) {j : Nat} (hj : j < l.length), (cellsQ l)[j * 3]? = some (.int .i64 l[j].g) ∧ (cellsQ l)[j * 3 + 1]? = some (.int .i64 l[j].o) ∧ (cellsQ l)[j * 3 + 2]? = some (.string l[j].b)
  | x :: l, 0, _ => ⟨rfl, rfl, rfl⟩
  | x :: l, j + 1, hj => by
    have ih := cellsQ_at l (j := j) (by simpa using hj)
    have h3 : x.cells.length = 3 := rfl
    simp only [cellsQ, List.getElem_cons_succ]
    obtain ⟨i0, i1, i2⟩ := ih
    refine ⟨?_, ?_, ?_⟩
    · rw [List.getElem?_append_right (by omega), h3, show (j + 1) * 3 - 3 = j * 3 by omega]; exact i0
    · rw [List.getElem?_append_right (by omega), h3, show (j + 1) * 3 + 1 - 3 = j * 3 + 1 by omega]; exact i1
    · rw [List.getElem?_append_right (by omega), h3, show (j + 1) * 3 + 2 - 3 = j * 3 + 2 by omega]; exact i2
/-- raw in a row, below block B -/
def Qs (w : World) (B : Nat) (l : List MR) (A : Option Addr) (c : Nat) : Prop := l.length ≤ c ∧ l.length * 32 ≤ 140737488355328 ∧ (A = none → c = 0) ∧ Rd w B A (cellsQ l) ∧ ∀ x ∈ l, x.fits
theorem Qs.below {w w' : World} {B : Nat} {l : List MR} {A : Option Addr} {c : Nat} (h : Qs w B l A c) (hb : Below B w w') : Qs w' B l A c := ⟨h.1, h.2.1, h.2.2.1, h.2.2.2.1.keep fun _ hp => hb.cell hp, h.2.2.2.2⟩
theorem Qs.more {w : World} {B B' : Nat} {l : List MR} {A : Option Addr} {c : Nat} (h : Qs w B l A c) (hB : B ≤ B') : Qs w B' l A c := ⟨h.1, h.2.1, h.2.2.1, h.2.2.2.1.more hB, h.2.2.2.2⟩
theorem Qs.at_world {w wr : World} {l : List MR} {A : Option Addr} {c : Nat} (h : Qs w w.heap.size l A c) (hb : Below w.heap.size w wr) : Qs wr wr.heap.size l A c := (h.below hb).more hb.size
theorem Qs.at_ {w : World} {B : Nat} {l : List MR} {A : Option Addr} {c : Nat} (h : Qs w B l A c) {j : Nat} (hj : j < l.length) : ∃ b off, A = some ⟨b, off, none⟩ ∧ b < B ∧ w.cell? ⟨b, off + j * 3, none⟩ = some (.int .i64 l[j].g) ∧ w.cell? ⟨b, off + j * 3 + 1, none⟩ = some (.int .i64 l[j].o) ∧ w.cell? ⟨b, off + j * 3 + 2, none⟩ = some (.string l[j].b) := by
  obtain ⟨c0, c1, c2⟩ := cellsQ_at l hj
  obtain ⟨b, off, e, hb, h0⟩ := h.2.2.2.1 _ _ c0
  obtain ⟨b1, off1, e1, hb1, h1⟩ := h.2.2.2.1 _ _ c1
  rw [e] at e1
  cases e1
  obtain ⟨b2, off2, e2, hb2, h2⟩ := h.2.2.2.1 _ _ c2
  rw [e] at e2
  cases e2
  exact ⟨b, off, e, hb, h0, by rw [Nat.add_assoc]; exact h1, by rw [Nat.add_assoc]; exact h2⟩
/-- a list out of its elements -/
theorem gatherQ (W : World) (a : Addr) (len : Nat) (h : ∀ i, i < len → ∃ x : MR, x.fits ∧ ∀ r u, x.cells[r]? = some u → W.cell? (a.add (i * 3 + r)) = some u) :
    ∃ l : List MR, l.length = len ∧ (∀ x ∈ l, x.fits) ∧ ∀ j u, (cellsQ l)[j]? = some u → W.cell? (a.add j) = some u := by
  induction len with
  | zero => exact ⟨[], rfl, (fun x hx => by cases hx), fun j u h => by simp [cellsQ] at h⟩
  | succ n ih =>
    obtain ⟨l, hl, hf, hc⟩ := ih (fun i hi => h i (by omega))
    obtain ⟨x, hx, hcs⟩ := h n (by omega)
    have hxl := cellsQ_len l
    refine ⟨l ++ [x], by simp [hl], fun y hy => ?_, fun j u hj => ?_⟩
    · rcases List.mem_append.1 hy with e | e
      · exact hf y e
      · rw [List.mem_singleton.1 e]; exact hx
    · rw [cellsQ_app] at hj
      rcases Nat.lt_or_ge j (cellsQ l).length with hlt | hge
      · rw [List.getElem?_append_left hlt] at hj
        exact hc j u hj
      · rw [List.getElem?_append_right hge, show cellsQ [x] = x.cells by simp [cellsQ]] at hj
        have := hcs (j - (cellsQ l).length) u hj
        rwa [show n * 3 + (j - (cellsQ l).length) = j by omega] at this
theorem bytesQ : Try.prog.bytesOf 263 = 32 := by kernel_rfl
theorem cellsQOf : Try.prog.cellsOf 263 = 3 := by kernel_rfl
theorem mem_allQ {l : List Nat} (h : l.all (· ≤ reachBytes) = true) {n : Nat} (hn : n ∈ l) : n ≤ reachBytes := by
  simpa using List.all_eq_true.1 h n hn
section
variable {H : Type} {enc : TypeId × Value → H} {W : World}
set_option maxRecDepth 100000 in
theorem openQ_one {m : Nat} {cs : List Value} {x : DataW H × List MemPlace} (h : DataW.trod enc Try.prog W 0 (fun _ => true) true m 263 cs = some x) : ∃ y : MR, cs = y.cells ∧ y.fits := by
  obtain ⟨ys, n, hn, hx, hlen, hyl, hf⟩ := DataW.trod_struct Try.underlying263 h
  rw [cellsQOf] at hlen
  match cs, hlen, ys, hyl with
  | [c0, c1, c2], _, [y0, y1, y2], _ =>
    have f0 : DataW.trod enc Try.prog W 0 (fun _ => true) true n 3 (List.take (Try.prog.cellsOf 3) (List.drop 0 [c0, c1, c2])) = some y0 := hf 0 _ rfl
    rw [show Try.prog.cellsOf 3 = 1 by kernel_rfl] at f0
    have f1 : DataW.trod enc Try.prog W 0 (fun _ => true) true n 3 (List.take (Try.prog.cellsOf 3) (List.drop 1 [c0, c1, c2])) = some y1 := hf 1 _ rfl
    rw [show Try.prog.cellsOf 3 = 1 by kernel_rfl] at f1
    have f2 : DataW.trod enc Try.prog W 0 (fun _ => true) true n 9 (List.take (Try.prog.cellsOf 9) (List.drop 2 [c0, c1, c2])) = some y2 := hf 2 _ rfl
    rw [show Try.prog.cellsOf 9 = 1 by kernel_rfl] at f2
    obtain ⟨v0, e0, _, w0⟩ := DataW.trod_int Try.underlying3 f0
    obtain ⟨v1, e1, _, w1⟩ := DataW.trod_int Try.underlying3 f1
    obtain ⟨v2, e2, _, w2⟩ := DataW.trod_string Try.underlying9 f2
    simp at e0 e1 e2
    subst e0 e1 e2
    simp [Lit.wf, IntKind.has] at w0 w1
    have h1 : IntKind.i64.min = -9223372036854775808 := rfl
    have h2 : IntKind.i64.max = 9223372036854775807 := rfl
    have h3 : IntKind.u64.min = 0 := rfl
    have h4 : IntKind.u64.max = 18446744073709551615 := rfl
    exact ⟨⟨v0, v1, v2⟩, rfl, ⟨by show _ ≤ v0; omega, by show v0 ≤ _; omega⟩, ⟨by show _ ≤ v1; omega, by show v1 ≤ _; omega⟩, w2⟩
set_option maxRecDepth 100000 in
theorem openQ_row {m : Nat} {cs : List Value} {x : DataW H × List MemPlace} (h : DataW.trod enc Try.prog W 0 (fun _ => true) true m 132 cs = some x) (hw : (x.1.weights Try.prog 132).all (· ≤ reachBytes) = true) :
    ∃ (l : List MR) (A : Option Addr) (c : Nat), cs = [.slice A l.length c] ∧ Qs W W.heap.size l A c := by
  rcases DataW.trod_slice Try.underlying132 h with ⟨rfl, _⟩ | ⟨a, len, cap, elems, rest, n, hn, rfl, rfl, _, hlc, hcm, hlen, hel, hsp, _⟩
  · exact ⟨[], none, 0, rfl, Nat.le_refl _, by simp, (fun _ => rfl), Rd.nil _ _ _, fun x hx => by cases hx⟩
  · have hrest := (hsp rfl).1
    have hcap : cap * 32 ≤ reachBytes := by
      refine mem_allQ hw ?_
      simp only [DataW.weights, Try.underlying132, bytesQ, List.length_map]
      rw [show elems.length + rest.length = cap by omega]
      exact List.mem_cons_self
    have hr47 : reachBytes ≤ 140737488355328 := by decide
    obtain ⟨l, hl, hf, hc⟩ := gatherQ W a len (fun i hi => by
      have h1 := hel i hi
      rw [cellsQOf] at h1
      have hie : elems[i]? = some elems[i] := List.getElem?_eq_getElem (by omega)
      rw [hie] at h1
      obtain ⟨cs', hcs, htr⟩ := Option.bind_eq_some_iff.1 h1
      obtain ⟨_, hcl, hat⟩ := World.cells?_some hcs
      obtain ⟨y, rfl, hy⟩ := openQ_one htr
      refine ⟨y, hy, fun r u hr => ?_⟩
      have hr3 : r < 3 := by have := (List.getElem?_eq_some_iff.1 hr).1; simpa [MR.cells] using this
      have := hat r hr3
      rw [Go.Deep.add_add] at this
      rw [this, hr])
    subst hl
    refine ⟨l, some a, cap, rfl, hlc, by omega, (fun e => by cases e), fun j u hj => ?_, hf⟩
    have hpos : 0 < (cellsQ l).length := by have := (List.getElem?_eq_some_iff.1 hj).1; omega
    have h0 := hc 0 (cellsQ l)[0] (List.getElem?_eq_getElem hpos)
    rw [show a.add 0 = a by simp [Addr.add]] at h0
    obtain ⟨b, off, rfl⟩ := plain_of_cell h0
    refine ⟨b, off, rfl, World.block_lt_of_cell? W _ h0, ?_⟩
    have := hc j u hj
    rwa [base.add_plain] at this
set_option maxRecDepth 100000 in
theorem openQ_arg {r : Reach} {b0 : Nat} {v : Value} {d : DataW H} {p : List MemPlace} (hv : Value.okWide Try.prog W r b0 132 v) (h : DataW.Trod enc Try.prog W 0 (fun _ => true) true 132 v d p)
    (hw : (d.weights Try.prog 132).all (· ≤ reachBytes) = true) : ∃ (l : List MR) (A : Option Addr) (c : Nat), v = .slice A l.length c ∧ Qs W W.heap.size l A c := by
  obtain ⟨a, len, cap, rfl⟩ := okWide_slice Try.underlying132 hv
  obtain ⟨m, hm⟩ := h
  obtain ⟨l, A, c, hcs, h1⟩ := openQ_row hm hw
  simp [Value.cells] at hcs
  obtain ⟨rfl, rfl, rfl⟩ := hcs
  exact ⟨l, a, cap, rfl, h1⟩
end

section
variable {H : Type} {enc : TypeId × Value → H} {W : World}
end
end Go.Proofs.Ytoenkkbcpafanaa.mediums

/- pick and awake of medium's laws. -/

namespace Go.Proofs.Ytoenkkbcpafanaa.mediums
set_option linter.unusedVariables false
set_option linter.unusedSimpArgs false
open Go.RowKit Go.Proofs.Ytoenkkbcpafanaa.base Go.Proofs.Ytoenkkbcpafanaa.trees Go.Proofs.Ytoenkkbcpafanaa.powers Go.Lib

def pkM (c : Int) (n : Nat) : Nat := (if Int.tmod c n < 0 then Int.tmod c n + n else Int.tmod c n).toNat
theorem pkM_lt (c : Int) (n : Nat) (hn : 0 < n) : pkM c n < n := by
  have l2 : Int.tmod c n < (n : Int) := Int.tmod_lt_of_pos c (by omega)
  unfold pkM
  split <;> omega

/-- how many bytes are written in a segment, as Used says -/
def usedI (m : MS) (sg : Int) : Int := if 0 ≤ sg ∧ sg < (m.segs.length : Int) then ((m.at_ sg.toNat).size : Int) else 0
section
variable {w : World} {S : Nat → Prop} {p g : Nat} {m : MS} {sb : Nat} {vs : List Value} {vp : Value} {L W : Int}

theorem used_any (h : Md w S p g m) (sg : Int) : Calls Try.prog 109 #[.pointer (some ⟨g, 0, none⟩), .int .i64 sg] w fun e w' => e = .returned (.int .i64 (usedI m sg)) ∧ w' = w := by
  obtain ⟨sb, vs, vp, h⟩ := h
  have hl := h.len
  by_cases hj : 0 ≤ sg ∧ sg < (vs.length : Int)
  · obtain ⟨j, rfl⟩ := Int.eq_ofNat_of_zero_le hj.1
    refine (used_yes h j (by omega)).mono ?_
    rintro e w' ⟨rfl, rfl⟩
    refine ⟨?_, rfl⟩
    unfold usedI
    rw [if_pos (by omega), Int.toNat_natCast]
  · refine (used_no h sg hj).mono ?_
    rintro e w' ⟨rfl, rfl⟩
    refine ⟨?_, rfl⟩
    unfold usedI
    rw [if_neg (by omega)]
theorem used_nat (h : Md w S p g m) (j : Nat) (hj : j < m.segs.length) : Calls Try.prog 109 #[.pointer (some ⟨g, 0, none⟩), .int .i64 (j : Int)] w fun e w' => e = .returned (.int .i64 ((m.at_ j).size : Int)) ∧ w' = w := by
  obtain ⟨sb, vs, vp, h⟩ := h
  have hl := h.len
  exact used_yes h j (by omega)
theorem read_all (h : Md w S p g m) (j : Nat) (hj : j < m.segs.length) : Calls Try.prog 302 #[.pointer (some ⟨g, 0, none⟩), .int .i64 (j : Int), .int .i64 0, .int .i64 ((m.at_ j).size : Int)] w fun e w' => e = .returned (.tuple #[.string (m.at_ j), .int .i64 0]) ∧ w' = w := by
  obtain ⟨sb, vs, vp, h⟩ := h
  have hl := h.len
  refine (read_ok h j (by omega) 0 (m.at_ j).size (by omega)).mono ?_
  rintro e w' ⟨rfl, rfl⟩
  refine ⟨?_, rfl⟩
  have : (m.at_ j).extract 0 (0 + (m.at_ j).size) = m.at_ j := by rw [Nat.zero_add]; exact ByteArray.extract_zero_size
  rw [this]
theorem write_any (h : Md w S p g m) (hp : Blk w p 219 (PC L W)) (hI : In L) (sg o : Int) (b : ByteArray) (hl : (m.past.length + 1) * 32 ≤ 140737488355328) :
    Calls Try.prog 99 #[.pointer (some ⟨g, 0, none⟩), .int .i64 sg, .int .i64 o, .string b] w (WrPost S p g m L W sg o b w) := by
  obtain ⟨sb, vs, vp, h⟩ := h
  exact write_ok h hp hI sg o b hl
theorem count_any (h : Md w S p g m) : Calls Try.prog 68 #[.pointer (some ⟨g, 0, none⟩)] w fun e w' => e = .returned (.int .i64 (m.past.length : Int)) ∧ w' = w := by
  obtain ⟨sb, vs, vp, h⟩ := h
  exact count_ok h
theorem Md.ptr (h : Md w S p g m) : w.cell? ⟨g, 0, none⟩ = some (.pointer (some ⟨p, 0, none⟩)) := by
  obtain ⟨sb, vs, vp, h⟩ := h
  have x0 := h.head.cell 0
  simpa using x0
theorem Md.pasts (h : Md w S p g m) : m.past.length * 32 ≤ 140737488355328 := by
  obtain ⟨sb, vs, vp, h⟩ := h
  exact h.bnd.2.2.2
theorem Md.seglen (h : Md w S p g m) : 1 ≤ m.segs.length ∧ m.segs.length ≤ 4096 := by
  obtain ⟨sb, vs, vp, h⟩ := h
  have := h.len; have := h.bnd.2.1; omega
theorem Md.at_le (h : Md w S p g m) (j : Nat) : (m.at_ j).size ≤ m.size := by
  obtain ⟨sb, vs, vp, h⟩ := h
  exact h.bnd.2.2.1 j
end
def abc : ByteArray := ⟨#[97, 98, 99]⟩
def zee : ByteArray := ⟨#[90]⟩
def aM1 : MS := putM (newM 2 4) 0 0 abc
def aM2 : MS := putM aM1 0 1 zee
theorem aw1 : refE (newM 2 4) 0 0 abc = 0 := by decide +kernel
theorem aw2 : refE aM1 0 1 zee = 0 := by decide +kernel
theorem aw3 : aM2.at_ 0 = ⟨#[97, 90]⟩ := by decide +kernel
theorem aw4 : wrE (newM 2 4) (-1) 0 0 abc = 0 := by decide +kernel
theorem aw5 : wrE aM1 (-1) 0 1 zee = 0 := by decide +kernel

end Go.Proofs.Ytoenkkbcpafanaa.mediums
