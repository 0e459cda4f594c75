/- The arguments of segment's laws: places, calls, texts. -/
import Derived.Test.YtoenkkbcpafanaaA00
import Derived.Test.YtoenkkbcpafanaaProg
import Derived.Lib.SmallJoins
import Derived.SizedLaws
import Derived.ProofKit
import Derived.OpenShut


namespace Go.Proofs.Ytoenkkbcpafanaa.segs
set_option linter.unusedVariables false
set_option linter.unusedSimpArgs false
open Go.RowKit Go.ChangeShapes Go.WideShapes Go.Proofs.Ytoenkkbcpafanaa.base

theorem all_mem14 {l : List Nat} (h : l.all (· ≤ reachBytes) = true) {n : Nat} (hn : n ∈ l) : n ≤ reachBytes := by
  simpa using List.all_eq_true.1 h n hn
theorem weightsAll_in14 {H : Type} {P : Program} {t : TypeId} {d : DataW H} : ∀ {l : List (DataW H)}, d ∈ l → ∀ n ∈ d.weights P t, n ∈ DataW.weightsAll P t l
  | x :: l, h, n, hn => by
    rw [DataW.weightsAll]
    rcases List.mem_cons.1 h with rfl | h
    · exact List.mem_append.2 (.inl hn)
    · exact List.mem_append.2 (.inr (weightsAll_in14 h n hn))
structure T3 where
  a : Int
  b : Int
  c : Int
def T3.cells (x : T3) : List Value := [.int .i64 x.a, .int .i64 x.b, .int .i64 x.c]
abbrev T3.v (x : T3) : Value := .agg #[.int .i64 x.a, .int .i64 x.b, .int .i64 x.c]
def Jok (w : World) (B : Nat) (x : T3) : Prop := (-9223372036854775808 ≤ x.a ∧ x.a ≤ 9223372036854775807) ∧ (-9223372036854775808 ≤ x.b ∧ x.b ≤ 9223372036854775807) ∧ (-9223372036854775808 ≤ x.c ∧ x.c ≤ 9223372036854775807)
theorem Jok.below {w w' : World} {B : Nat} {x : T3} (h : Jok w B x) (hb : Below B w w') : Jok w' B x := ⟨h.1, h.2.1, h.2.2⟩
theorem Jok.more {w : World} {B B' : Nat} {x : T3} (h : Jok w B x) (hB : B ≤ B') : Jok w B' x := ⟨h.1, h.2.1, h.2.2⟩
def cellsJ : List T3 → List Value
  | [] => []
  | x :: l => x.cells ++ cellsJ l
theorem cellsJ_len : ∀ l : List T3, (cellsJ l).length = l.length * 3
  | [] => rfl
  | x :: l => by rw [cellsJ, List.length_append, cellsJ_len l]; simp [T3.cells]; omega
theorem cellsJ_app : ∀ l m : List T3, cellsJ (l ++ m) = cellsJ l ++ cellsJ m
  | [], m => rfl
  | x :: l, m => by rw [List.cons_append, cellsJ, cellsJ_app l m, cellsJ, List.append_assoc]
theorem cellsJ_one (l : List T3) : ∀ u ∈ cellsJ l, u.oneCell' = true := by
  induction l with
  | nil => intro u h; cases h
  | cons x l ih =>
    intro u h
    rcases List.mem_append.1 h with h | h
    · simp [T3.cells] at h
      rcases h with rfl | rfl | rfl <;> rfl
    · exact ih u h
theorem cellsJ_at : ∀ (l : List T3) {j : Nat} (hj : j < l.length), (cellsJ l)[j * 3]? = some (.int .i64 l[j].a) ∧ (cellsJ l)[j * 3 + 1]? = some (.int .i64 l[j].b) ∧ (cellsJ l)[j * 3 + 2]? = some (.int .i64 l[j].c)
  | x :: l, 0, _ => ⟨rfl, rfl, rfl⟩
  | x :: l, j + 1, hj => by
    have ih := cellsJ_at l (j := j) (by simpa using hj)
    have h3 : x.cells.length = 3 := rfl
    simp only [cellsJ, List.getElem_cons_succ]
    obtain ⟨i0, i1, i2⟩ := ih
    refine ⟨?_, ?_, ?_⟩
    · rw [List.getElem?_append_right (by omega), h3, show (j + 1) * 3 - 3 = j * 3 by omega]; exact i0
    · rw [List.getElem?_append_right (by omega), h3, show (j + 1) * 3 + 1 - 3 = j * 3 + 1 by omega]; exact i1
    · rw [List.getElem?_append_right (by omega), h3, show (j + 1) * 3 + 2 - 3 = j * 3 + 2 by omega]; exact i2
/-- raw in a row, below block B -/
def Js (w : World) (B : Nat) (l : List T3) (A : Option Addr) (c : Nat) : Prop := l.length ≤ c ∧ l.length * 24 ≤ 140737488355328 ∧ (A = none → c = 0) ∧ Rd w B A (cellsJ l) ∧ ∀ x ∈ l, Jok w B x
theorem Js.below {w w' : World} {B : Nat} {l : List T3} {A : Option Addr} {c : Nat} (h : Js w B l A c) (hb : Below B w w') : Js w' B l A c := ⟨h.1, h.2.1, h.2.2.1, h.2.2.2.1.keep fun _ hp => hb.cell hp, fun x hx => (h.2.2.2.2 x hx).below hb⟩
theorem Js.more {w : World} {B B' : Nat} {l : List T3} {A : Option Addr} {c : Nat} (h : Js w B l A c) (hB : B ≤ B') : Js w B' l A c := ⟨h.1, h.2.1, h.2.2.1, h.2.2.2.1.more hB, fun x hx => (h.2.2.2.2 x hx).more hB⟩
theorem Js.at_world {w wr : World} {l : List T3} {A : Option Addr} {c : Nat} (h : Js w w.heap.size l A c) (hb : Below w.heap.size w wr) : Js wr wr.heap.size l A c := (h.below hb).more hb.size
theorem Js.at_ {w : World} {B : Nat} {l : List T3} {A : Option Addr} {c : Nat} (h : Js w B l A c) {j : Nat} (hj : j < l.length) : ∃ b off, A = some ⟨b, off, none⟩ ∧ b < B ∧ w.cell? ⟨b, off + j * 3, none⟩ = some (.int .i64 l[j].a) ∧ w.cell? ⟨b, off + j * 3 + 1, none⟩ = some (.int .i64 l[j].b) ∧ w.cell? ⟨b, off + j * 3 + 2, none⟩ = some (.int .i64 l[j].c) := by
  obtain ⟨c0, c1, c2⟩ := cellsJ_at l hj
  obtain ⟨b, off, e, hb, h0⟩ := h.2.2.2.1 _ _ c0
  obtain ⟨b1, off1, e1, hb1, h1⟩ := h.2.2.2.1 _ _ c1
  rw [e] at e1
  cases e1
  obtain ⟨b2, off2, e2, hb2, h2⟩ := h.2.2.2.1 _ _ c2
  rw [e] at e2
  cases e2
  exact ⟨b, off, e, hb, h0, by rw [Nat.add_assoc]; exact h1, by rw [Nat.add_assoc]; exact h2⟩
/-- a list out of its elements -/
theorem gatherJ (W : World) (a : Addr) (len : Nat) (h : ∀ i, i < len → ∃ x : T3, Jok W W.heap.size x ∧ ∀ r u, x.cells[r]? = some u → W.cell? (a.add (i * 3 + r)) = some u) :
    ∃ l : List T3, l.length = len ∧ (∀ x ∈ l, Jok W W.heap.size x) ∧ ∀ j u, (cellsJ l)[j]? = some u → W.cell? (a.add j) = some u := by
  induction len with
  | zero => exact ⟨[], rfl, (fun x hx => by cases hx), fun j u h => by simp [cellsJ] at h⟩
  | succ n ih =>
    obtain ⟨l, hl, hf, hc⟩ := ih (fun i hi => h i (by omega))
    obtain ⟨x, hx, hcs⟩ := h n (by omega)
    have hxl := cellsJ_len l
    refine ⟨l ++ [x], by simp [hl], fun y hy => ?_, fun j u hj => ?_⟩
    · rcases List.mem_append.1 hy with e | e
      · exact hf y e
      · rw [List.mem_singleton.1 e]; exact hx
    · rw [cellsJ_app] at hj
      rcases Nat.lt_or_ge j (cellsJ l).length with hlt | hge
      · rw [List.getElem?_append_left hlt] at hj
        exact hc j u hj
      · rw [List.getElem?_append_right hge, show cellsJ [x] = x.cells by simp [cellsJ]] at hj
        have := hcs (j - (cellsJ l).length) u hj
        rwa [show n * 3 + (j - (cellsJ l).length) = j by omega] at this
theorem bytesJ : Try.prog.bytesOf 189 = 24 := by kernel_rfl
theorem cellsJOf : Try.prog.cellsOf 189 = 3 := by kernel_rfl
section
variable {H : Type} {enc : TypeId × Value → H} {W : World}
set_option maxRecDepth 100000 in
theorem openJ_one {m : Nat} {cs : List Value} {x : DataW H × List MemPlace} (h : DataW.trod enc Try.prog W 0 (fun _ => true) true m 189 cs = some x) (hw : (x.1.weights Try.prog 189).all (· ≤ reachBytes) = true) : ∃ y : T3, cs = y.cells ∧ Jok W W.heap.size y := by
  obtain ⟨ys, n, hn, hx, hlen, hyl, hf⟩ := DataW.trod_struct Try.underlying189 h
  rw [cellsJOf] at hlen
  match cs, hlen, ys, hyl with
  | [c0, c1, c2], _, [y0, y1, y2], _ =>
    have f0 : DataW.trod enc Try.prog W 0 (fun _ => true) true n 3 (List.take (Try.prog.cellsOf 3) (List.drop 0 [c0, c1, c2])) = some y0 := hf 0 _ rfl
    rw [show Try.prog.cellsOf 3 = 1 by kernel_rfl] at f0
    have f1 : DataW.trod enc Try.prog W 0 (fun _ => true) true n 3 (List.take (Try.prog.cellsOf 3) (List.drop 1 [c0, c1, c2])) = some y1 := hf 1 _ rfl
    rw [show Try.prog.cellsOf 3 = 1 by kernel_rfl] at f1
    have f2 : DataW.trod enc Try.prog W 0 (fun _ => true) true n 3 (List.take (Try.prog.cellsOf 3) (List.drop 2 [c0, c1, c2])) = some y2 := hf 2 _ rfl
    rw [show Try.prog.cellsOf 3 = 1 by kernel_rfl] at f2
    obtain ⟨v0, e0, _, w0⟩ := DataW.trod_int Try.underlying3 f0
    obtain ⟨v1, e1, _, w1⟩ := DataW.trod_int Try.underlying3 f1
    obtain ⟨v2, e2, _, w2⟩ := DataW.trod_int Try.underlying3 f2
    simp at e0 e1 e2
    subst e0 e1 e2
    simp [Lit.wf, IntKind.has] at w0 w1 w2
    have h1 : IntKind.i64.min = -9223372036854775808 := rfl
    have h2 : IntKind.i64.max = 9223372036854775807 := rfl
    exact ⟨⟨v0, v1, v2⟩, rfl, ⟨by show _ ≤ v0; omega, by show v0 ≤ _; omega⟩, ⟨by show _ ≤ v1; omega, by show v1 ≤ _; omega⟩, ⟨by show _ ≤ v2; omega, by show v2 ≤ _; omega⟩⟩
set_option maxRecDepth 100000 in
theorem openJ_row {m : Nat} {cs : List Value} {x : DataW H × List MemPlace} (h : DataW.trod enc Try.prog W 0 (fun _ => true) true m 68 cs = some x) (hw : (x.1.weights Try.prog 68).all (· ≤ reachBytes) = true) :
    ∃ (l : List T3) (A : Option Addr) (c : Nat), cs = [.slice A l.length c] ∧ Js W W.heap.size l A c := by
  rcases DataW.trod_slice Try.underlying68 h with ⟨rfl, _⟩ | ⟨a, len, cap, elems, rest, n, hn, rfl, rfl, _, hlc, hcm, hlen, hel, hsp, _⟩
  · exact ⟨[], none, 0, rfl, Nat.le_refl _, by simp, (fun _ => rfl), Rd.nil _ _ _, fun x hx => by cases hx⟩
  · have hrest := (hsp rfl).1
    have hcap : cap * 24 ≤ reachBytes := by
      refine all_mem14 hw ?_
      simp only [DataW.weights, Try.underlying68, bytesJ, List.length_map]
      rw [show elems.length + rest.length = cap by omega]
      exact List.mem_cons_self
    have hr47 : reachBytes ≤ 140737488355328 := by decide
    obtain ⟨l, hl, hf, hc⟩ := gatherJ W a len (fun i hi => by
      have h1 := hel i hi
      rw [cellsJOf] at h1
      have hie : elems[i]? = some elems[i] := List.getElem?_eq_getElem (by omega)
      rw [hie] at h1
      obtain ⟨cs', hcs, htr⟩ := Option.bind_eq_some_iff.1 h1
      obtain ⟨_, hcl, hat⟩ := World.cells?_some hcs
      obtain ⟨y, rfl, hy⟩ := openJ_one htr (by
        rw [List.all_eq_true]
        intro n hn
        have : n ∈ DataW.weights Try.prog 68 (DataW.slice (elems.map (·.1)) (rest.map (·.1))) := by
          simp only [DataW.weights, Try.underlying68, List.mem_cons, List.mem_append]
          exact .inr (.inl (weightsAll_in14 (List.mem_map_of_mem (List.getElem_mem (by omega))) n hn))
        simpa using all_mem14 hw this)
      refine ⟨y, hy, fun r u hr => ?_⟩
      have hr3 : r < 3 := by have := (List.getElem?_eq_some_iff.1 hr).1; simpa [T3.cells] using this
      have := hat r hr3
      rw [Go.Deep.add_add] at this
      rw [this, hr])
    subst hl
    refine ⟨l, some a, cap, rfl, hlc, by omega, (fun e => by cases e), fun j u hj => ?_, hf⟩
    have hpos : 0 < (cellsJ l).length := by have := (List.getElem?_eq_some_iff.1 hj).1; omega
    have h0 := hc 0 (cellsJ l)[0] (List.getElem?_eq_getElem hpos)
    rw [show a.add 0 = a by simp [Addr.add]] at h0
    obtain ⟨b, off, rfl⟩ := plain_of_cell h0
    refine ⟨b, off, rfl, World.block_lt_of_cell? W _ h0, ?_⟩
    have := hc j u hj
    rwa [base.add_plain] at this
set_option maxRecDepth 100000 in
theorem openJ_arg {r : Reach} {b0 : Nat} {v : Value} {d : DataW H} {p : List MemPlace} (hv : Value.okWide Try.prog W r b0 68 v) (h : DataW.Trod enc Try.prog W 0 (fun _ => true) true 68 v d p)
    (hw : (d.weights Try.prog 68).all (· ≤ reachBytes) = true) : ∃ (l : List T3) (A : Option Addr) (c : Nat), v = .slice A l.length c ∧ Js W W.heap.size l A c := by
  obtain ⟨a, len, cap, rfl⟩ := okWide_slice Try.underlying68 hv
  obtain ⟨m, hm⟩ := h
  obtain ⟨l, A, c, hcs, h1⟩ := openJ_row hm hw
  simp [Value.cells] at hcs
  obtain ⟨rfl, rfl, rfl⟩ := hcs
  exact ⟨l, a, cap, rfl, h1⟩
end
structure SO where
  k : Int
  s : ByteArray
  a : Int
  b : Int
  l : List T3
  lA : Option Addr
  lc : Nat
def SO.cells (x : SO) : List Value := [.int .i64 x.k, .string x.s, .int .i64 x.a, .int .i64 x.b, .slice x.lA x.l.length x.lc]
abbrev SO.v (x : SO) : Value := .agg #[.int .i64 x.k, .string x.s, .int .i64 x.a, .int .i64 x.b, .slice x.lA x.l.length x.lc]
def Ook (w : World) (B : Nat) (x : SO) : Prop := (-9223372036854775808 ≤ x.k ∧ x.k ≤ 9223372036854775807) ∧ x.s.size ≤ maxLen ∧ (-9223372036854775808 ≤ x.a ∧ x.a ≤ 9223372036854775807) ∧ (-9223372036854775808 ≤ x.b ∧ x.b ≤ 9223372036854775807) ∧ Js w B x.l x.lA x.lc
theorem Ook.below {w w' : World} {B : Nat} {x : SO} (h : Ook w B x) (hb : Below B w w') : Ook w' B x := ⟨h.1, h.2.1, h.2.2.1, h.2.2.2.1, (h.2.2.2.2).below hb⟩
theorem Ook.more {w : World} {B B' : Nat} {x : SO} (h : Ook w B x) (hB : B ≤ B') : Ook w B' x := ⟨h.1, h.2.1, h.2.2.1, h.2.2.2.1, (h.2.2.2.2).more hB⟩
def cellsO : List SO → List Value
  | [] => []
  | x :: l => x.cells ++ cellsO l
theorem cellsO_len : ∀ l : List SO, (cellsO l).length = l.length * 5
  | [] => rfl
  | x :: l => by rw [cellsO, List.length_append, cellsO_len l]; simp [SO.cells]; omega
theorem cellsO_app : ∀ l m : List SO, cellsO (l ++ m) = cellsO l ++ cellsO m
  | [], m => rfl
  | x :: l, m => by rw [List.cons_append, cellsO, cellsO_app l m, cellsO, List.append_assoc]
theorem cellsO_one (l : List SO) : ∀ u ∈ cellsO l, u.oneCell' = true := by
  induction l with
  | nil => intro u h; cases h
  | cons x l ih =>
    intro u h
    rcases List.mem_append.1 h with h | h
    · simp [SO.cells] at h
      rcases h with rfl | rfl | rfl | rfl | rfl <;> rfl
    · exact ih u h
theorem cellsO_at : ∀ (l : List SO) {j : Nat} (hj : j < l.length), (cellsO l)[j * 5]? = some (.int .i64 l[j].k) ∧ (cellsO l)[j * 5 + 1]? = some (.string l[j].s) ∧ (cellsO l)[j * 5 + 2]? = some (.int .i64 l[j].a) ∧ (cellsO l)[j * 5 + 3]? = some (.int .i64 l[j].b) ∧ (cellsO l)[j * 5 + 4]? = some (.slice l[j].lA l[j].l.length l[j].lc)
  | x :: l, 0, _ => ⟨rfl, rfl, rfl, rfl, rfl⟩
  | x :: l, j + 1, hj => by
    have ih := cellsO_at l (j := j) (by simpa using hj)
    have h3 : x.cells.length = 5 := rfl
    simp only [cellsO, List.getElem_cons_succ]
    obtain ⟨i0, i1, i2, i3, i4⟩ := ih
    refine ⟨?_, ?_, ?_, ?_, ?_⟩
    · rw [List.getElem?_append_right (by omega), h3, show (j + 1) * 5 - 5 = j * 5 by omega]; exact i0
    · rw [List.getElem?_append_right (by omega), h3, show (j + 1) * 5 + 1 - 5 = j * 5 + 1 by omega]; exact i1
    · rw [List.getElem?_append_right (by omega), h3, show (j + 1) * 5 + 2 - 5 = j * 5 + 2 by omega]; exact i2
    · rw [List.getElem?_append_right (by omega), h3, show (j + 1) * 5 + 3 - 5 = j * 5 + 3 by omega]; exact i3
    · rw [List.getElem?_append_right (by omega), h3, show (j + 1) * 5 + 4 - 5 = j * 5 + 4 by omega]; exact i4
/-- raw in a row, below block B -/
def Os (w : World) (B : Nat) (l : List SO) (A : Option Addr) (c : Nat) : Prop := l.length ≤ c ∧ l.length * 64 ≤ 140737488355328 ∧ (A = none → c = 0) ∧ Rd w B A (cellsO l) ∧ ∀ x ∈ l, Ook w B x
theorem Os.below {w w' : World} {B : Nat} {l : List SO} {A : Option Addr} {c : Nat} (h : Os w B l A c) (hb : Below B w w') : Os w' B l A c := ⟨h.1, h.2.1, h.2.2.1, h.2.2.2.1.keep fun _ hp => hb.cell hp, fun x hx => (h.2.2.2.2 x hx).below hb⟩
theorem Os.more {w : World} {B B' : Nat} {l : List SO} {A : Option Addr} {c : Nat} (h : Os w B l A c) (hB : B ≤ B') : Os w B' l A c := ⟨h.1, h.2.1, h.2.2.1, h.2.2.2.1.more hB, fun x hx => (h.2.2.2.2 x hx).more hB⟩
theorem Os.at_world {w wr : World} {l : List SO} {A : Option Addr} {c : Nat} (h : Os w w.heap.size l A c) (hb : Below w.heap.size w wr) : Os wr wr.heap.size l A c := (h.below hb).more hb.size
theorem Os.at_ {w : World} {B : Nat} {l : List SO} {A : Option Addr} {c : Nat} (h : Os w B l A c) {j : Nat} (hj : j < l.length) : ∃ b off, A = some ⟨b, off, none⟩ ∧ b < B ∧ w.cell? ⟨b, off + j * 5, none⟩ = some (.int .i64 l[j].k) ∧ w.cell? ⟨b, off + j * 5 + 1, none⟩ = some (.string l[j].s) ∧ w.cell? ⟨b, off + j * 5 + 2, none⟩ = some (.int .i64 l[j].a) ∧ w.cell? ⟨b, off + j * 5 + 3, none⟩ = some (.int .i64 l[j].b) ∧ w.cell? ⟨b, off + j * 5 + 4, none⟩ = some (.slice l[j].lA l[j].l.length l[j].lc) := by
  obtain ⟨c0, c1, c2, c3, c4⟩ := cellsO_at l hj
  obtain ⟨b, off, e, hb, h0⟩ := h.2.2.2.1 _ _ c0
  obtain ⟨b1, off1, e1, hb1, h1⟩ := h.2.2.2.1 _ _ c1
  rw [e] at e1
  cases e1
  obtain ⟨b2, off2, e2, hb2, h2⟩ := h.2.2.2.1 _ _ c2
  rw [e] at e2
  cases e2
  obtain ⟨b3, off3, e3, hb3, h3⟩ := h.2.2.2.1 _ _ c3
  rw [e] at e3
  cases e3
  obtain ⟨b4, off4, e4, hb4, h4⟩ := h.2.2.2.1 _ _ c4
  rw [e] at e4
  cases e4
  exact ⟨b, off, e, hb, h0, by rw [Nat.add_assoc]; exact h1, by rw [Nat.add_assoc]; exact h2, by rw [Nat.add_assoc]; exact h3, by rw [Nat.add_assoc]; exact h4⟩
/-- a list out of its elements -/
theorem gatherO (W : World) (a : Addr) (len : Nat) (h : ∀ i, i < len → ∃ x : SO, Ook W W.heap.size x ∧ ∀ r u, x.cells[r]? = some u → W.cell? (a.add (i * 5 + r)) = some u) :
    ∃ l : List SO, l.length = len ∧ (∀ x ∈ l, Ook W W.heap.size x) ∧ ∀ j u, (cellsO l)[j]? = some u → W.cell? (a.add j) = some u := by
  induction len with
  | zero => exact ⟨[], rfl, (fun x hx => by cases hx), fun j u h => by simp [cellsO] at h⟩
  | succ n ih =>
    obtain ⟨l, hl, hf, hc⟩ := ih (fun i hi => h i (by omega))
    obtain ⟨x, hx, hcs⟩ := h n (by omega)
    have hxl := cellsO_len l
    refine ⟨l ++ [x], by simp [hl], fun y hy => ?_, fun j u hj => ?_⟩
    · rcases List.mem_append.1 hy with e | e
      · exact hf y e
      · rw [List.mem_singleton.1 e]; exact hx
    · rw [cellsO_app] at hj
      rcases Nat.lt_or_ge j (cellsO l).length with hlt | hge
      · rw [List.getElem?_append_left hlt] at hj
        exact hc j u hj
      · rw [List.getElem?_append_right hge, show cellsO [x] = x.cells by simp [cellsO]] at hj
        have := hcs (j - (cellsO l).length) u hj
        rwa [show n * 5 + (j - (cellsO l).length) = j by omega] at this
theorem bytesO : Try.prog.bytesOf 73 = 64 := by kernel_rfl
theorem cellsOOf : Try.prog.cellsOf 73 = 5 := by kernel_rfl
section
variable {H : Type} {enc : TypeId × Value → H} {W : World}
set_option maxRecDepth 100000 in
theorem openO_one {m : Nat} {cs : List Value} {x : DataW H × List MemPlace} (h : DataW.trod enc Try.prog W 0 (fun _ => true) true m 73 cs = some x) (hw : (x.1.weights Try.prog 73).all (· ≤ reachBytes) = true) : ∃ y : SO, cs = y.cells ∧ Ook W W.heap.size y := by
  obtain ⟨ys, n, hn, hx, hlen, hyl, hf⟩ := DataW.trod_struct Try.underlying73 h
  rw [cellsOOf] at hlen
  match cs, hlen, ys, hyl with
  | [c0, c1, c2, c3, c4], _, [y0, y1, y2, y3, y4], _ =>
    have f0 : DataW.trod enc Try.prog W 0 (fun _ => true) true n 3 (List.take (Try.prog.cellsOf 3) (List.drop 0 [c0, c1, c2, c3, c4])) = some y0 := hf 0 _ rfl
    rw [show Try.prog.cellsOf 3 = 1 by kernel_rfl] at f0
    have f1 : DataW.trod enc Try.prog W 0 (fun _ => true) true n 9 (List.take (Try.prog.cellsOf 9) (List.drop 1 [c0, c1, c2, c3, c4])) = some y1 := hf 1 _ rfl
    rw [show Try.prog.cellsOf 9 = 1 by kernel_rfl] at f1
    have f2 : DataW.trod enc Try.prog W 0 (fun _ => true) true n 3 (List.take (Try.prog.cellsOf 3) (List.drop 2 [c0, c1, c2, c3, c4])) = some y2 := hf 2 _ rfl
    rw [show Try.prog.cellsOf 3 = 1 by kernel_rfl] at f2
    have f3 : DataW.trod enc Try.prog W 0 (fun _ => true) true n 3 (List.take (Try.prog.cellsOf 3) (List.drop 3 [c0, c1, c2, c3, c4])) = some y3 := hf 3 _ rfl
    rw [show Try.prog.cellsOf 3 = 1 by kernel_rfl] at f3
    have f4 : DataW.trod enc Try.prog W 0 (fun _ => true) true n 68 (List.take (Try.prog.cellsOf 68) (List.drop 4 [c0, c1, c2, c3, c4])) = some y4 := hf 4 _ rfl
    rw [show Try.prog.cellsOf 68 = 1 by kernel_rfl] at f4
    obtain ⟨v0, e0, _, w0⟩ := DataW.trod_int Try.underlying3 f0
    obtain ⟨v1, e1, _, w1⟩ := DataW.trod_string Try.underlying9 f1
    obtain ⟨v2, e2, _, w2⟩ := DataW.trod_int Try.underlying3 f2
    obtain ⟨v3, e3, _, w3⟩ := DataW.trod_int Try.underlying3 f3
    obtain ⟨v4, v4A, v4c, e4, w4⟩ := openJ_row f4 (by
      rw [List.all_eq_true]
      intro n hn
      have : n ∈ x.1.weights Try.prog 73 := by
        rw [hx]
        simp only [DataW.weights, Try.underlying73, DataW.weightsEach, List.map_cons, List.mem_append]
        exact .inr (.inr (.inr (.inr (.inl hn))))
      simpa using all_mem14 hw this)
    simp at e0 e1 e2 e3 e4
    subst e0 e1 e2 e3 e4
    simp [Lit.wf, IntKind.has] at w0 w2 w3
    have h1 : IntKind.i64.min = -9223372036854775808 := rfl
    have h2 : IntKind.i64.max = 9223372036854775807 := rfl
    exact ⟨⟨v0, v1, v2, v3, v4, v4A, v4c⟩, rfl, ⟨by show _ ≤ v0; omega, by show v0 ≤ _; omega⟩, w1, ⟨by show _ ≤ v2; omega, by show v2 ≤ _; omega⟩, ⟨by show _ ≤ v3; omega, by show v3 ≤ _; omega⟩, w4⟩
set_option maxRecDepth 100000 in
theorem openO_row {m : Nat} {cs : List Value} {x : DataW H × List MemPlace} (h : DataW.trod enc Try.prog W 0 (fun _ => true) true m 54 cs = some x) (hw : (x.1.weights Try.prog 54).all (· ≤ reachBytes) = true) :
    ∃ (l : List SO) (A : Option Addr) (c : Nat), cs = [.slice A l.length c] ∧ Os W W.heap.size l A c := by
  rcases DataW.trod_slice Try.underlying54 h with ⟨rfl, _⟩ | ⟨a, len, cap, elems, rest, n, hn, rfl, rfl, _, hlc, hcm, hlen, hel, hsp, _⟩
  · exact ⟨[], none, 0, rfl, Nat.le_refl _, by simp, (fun _ => rfl), Rd.nil _ _ _, fun x hx => by cases hx⟩
  · have hrest := (hsp rfl).1
    have hcap : cap * 64 ≤ reachBytes := by
      refine all_mem14 hw ?_
      simp only [DataW.weights, Try.underlying54, bytesO, List.length_map]
      rw [show elems.length + rest.length = cap by omega]
      exact List.mem_cons_self
    have hr47 : reachBytes ≤ 140737488355328 := by decide
    obtain ⟨l, hl, hf, hc⟩ := gatherO W a len (fun i hi => by
      have h1 := hel i hi
      rw [cellsOOf] at h1
      have hie : elems[i]? = some elems[i] := List.getElem?_eq_getElem (by omega)
      rw [hie] at h1
      obtain ⟨cs', hcs, htr⟩ := Option.bind_eq_some_iff.1 h1
      obtain ⟨_, hcl, hat⟩ := World.cells?_some hcs
      obtain ⟨y, rfl, hy⟩ := openO_one htr (by
        rw [List.all_eq_true]
        intro n hn
        have : n ∈ DataW.weights Try.prog 54 (DataW.slice (elems.map (·.1)) (rest.map (·.1))) := by
          simp only [DataW.weights, Try.underlying54, List.mem_cons, List.mem_append]
          exact .inr (.inl (weightsAll_in14 (List.mem_map_of_mem (List.getElem_mem (by omega))) n hn))
        simpa using all_mem14 hw this)
      refine ⟨y, hy, fun r u hr => ?_⟩
      have hr3 : r < 5 := by have := (List.getElem?_eq_some_iff.1 hr).1; simpa [SO.cells] using this
      have := hat r hr3
      rw [Go.Deep.add_add] at this
      rw [this, hr])
    subst hl
    refine ⟨l, some a, cap, rfl, hlc, by omega, (fun e => by cases e), fun j u hj => ?_, hf⟩
    have hpos : 0 < (cellsO l).length := by have := (List.getElem?_eq_some_iff.1 hj).1; omega
    have h0 := hc 0 (cellsO l)[0] (List.getElem?_eq_getElem hpos)
    rw [show a.add 0 = a by simp [Addr.add]] at h0
    obtain ⟨b, off, rfl⟩ := plain_of_cell h0
    refine ⟨b, off, rfl, World.block_lt_of_cell? W _ h0, ?_⟩
    have := hc j u hj
    rwa [base.add_plain] at this
set_option maxRecDepth 100000 in
theorem openO_arg {r : Reach} {b0 : Nat} {v : Value} {d : DataW H} {p : List MemPlace} (hv : Value.okWide Try.prog W r b0 54 v) (h : DataW.Trod enc Try.prog W 0 (fun _ => true) true 54 v d p)
    (hw : (d.weights Try.prog 54).all (· ≤ reachBytes) = true) : ∃ (l : List SO) (A : Option Addr) (c : Nat), v = .slice A l.length c ∧ Os W W.heap.size l A c := by
  obtain ⟨a, len, cap, rfl⟩ := okWide_slice Try.underlying54 hv
  obtain ⟨m, hm⟩ := h
  obtain ⟨l, A, c, hcs, h1⟩ := openO_row hm hw
  simp [Value.cells] at hcs
  obtain ⟨rfl, rfl, rfl⟩ := hcs
  exact ⟨l, a, cap, rfl, h1⟩
end
/-- a row of texts, below block B -/
def sts (l : List ByteArray) : List Value := l.map Value.string
theorem sts_append (l m : List ByteArray) : sts (l ++ m) = sts l ++ sts m := by simp [sts]
def Ts (w : World) (B : Nat) (l : List ByteArray) (A : Option Addr) (c : Nat) : Prop := l.length ≤ c ∧ l.length * 16 ≤ 140737488355328 ∧ (A = none → c = 0) ∧ Rd w B A (sts l) ∧ ∀ x ∈ l, x.size ≤ maxLen
theorem Ts.below {w w' : World} {B : Nat} {l : List ByteArray} {A : Option Addr} {c : Nat} (h : Ts w B l A c) (hb : Below B w w') : Ts w' B l A c := ⟨h.1, h.2.1, h.2.2.1, h.2.2.2.1.keep fun _ hp => hb.cell hp, h.2.2.2.2⟩
theorem Ts.more {w : World} {B B' : Nat} {l : List ByteArray} {A : Option Addr} {c : Nat} (h : Ts w B l A c) (hB : B ≤ B') : Ts w B' l A c := ⟨h.1, h.2.1, h.2.2.1, h.2.2.2.1.more hB, h.2.2.2.2⟩
theorem Ts.at_world {w wr : World} {l : List ByteArray} {A : Option Addr} {c : Nat} (h : Ts w w.heap.size l A c) (hb : Below w.heap.size w wr) : Ts wr wr.heap.size l A c := (h.below hb).more hb.size
theorem Ts.at_ {w : World} {B : Nat} {l : List ByteArray} {A : Option Addr} {c : Nat} (h : Ts w B l A c) {j : Nat} (hj : j < l.length) : ∃ b off, A = some ⟨b, off, none⟩ ∧ b < B ∧ w.cell? ⟨b, off + j, none⟩ = some (.string l[j]) ∧ l[j].size ≤ maxLen := by
  obtain ⟨b, off, e, hb, h0⟩ := h.2.2.2.1 j (.string l[j]) (by simp [sts])
  exact ⟨b, off, e, hb, h0, h.2.2.2.2 _ (List.getElem_mem hj)⟩
theorem gatherT (W : World) (a : Addr) (len : Nat) (h : ∀ i, i < len → ∃ x : ByteArray, (x.size ≤ maxLen) ∧ ∀ r u, ([Value.string x])[r]? = some u → W.cell? (a.add (i * 1 + r)) = some u) :
    ∃ l : List ByteArray, l.length = len ∧ (∀ x ∈ l, x.size ≤ maxLen) ∧ ∀ j u, (sts l)[j]? = some u → W.cell? (a.add j) = some u := by
  induction len with
  | zero => exact ⟨[], rfl, (fun x hx => by cases hx), fun j u h => by simp [sts] at h⟩
  | succ n ih =>
    obtain ⟨l, hl, hf, hc⟩ := ih (fun i hi => h i (by omega))
    obtain ⟨x, hx, hcs⟩ := h n (by omega)
    have hxl : (sts l).length = l.length * 1 := by simp [sts]
    refine ⟨l ++ [x], by simp [hl], fun y hy => ?_, fun j u hj => ?_⟩
    · rcases List.mem_append.1 hy with e | e
      · exact hf y e
      · rw [List.mem_singleton.1 e]; exact hx
    · rw [sts_append] at hj
      rcases Nat.lt_or_ge j (sts l).length with hlt | hge
      · rw [List.getElem?_append_left hlt] at hj
        exact hc j u hj
      · rw [List.getElem?_append_right hge, show sts [x] = [Value.string x] by simp [sts]] at hj
        have := hcs (j - (sts l).length) u hj
        rwa [show n * 1 + (j - (sts l).length) = j by omega] at this

section
variable {H : Type} {enc : TypeId × Value → H} {W : World}
set_option maxRecDepth 100000 in
theorem open_texts {m : Nat} {cs : List Value} {x : DataW H × List MemPlace} (h : DataW.trod enc Try.prog W 0 (fun _ => true) true m 195 cs = some x) (hw : (x.1.weights Try.prog 195).all (· ≤ reachBytes) = true) :
    ∃ (l : List ByteArray) (A : Option Addr) (c : Nat), cs = [.slice A l.length c] ∧ Ts W W.heap.size l A c := by
  rcases DataW.trod_slice Try.underlying195 h with ⟨rfl, _⟩ | ⟨a, len, cap, elems, rest, n, hn, rfl, rfl, _, hlc, hcm, hlen, hel, hsp, _⟩
  · exact ⟨[], none, 0, rfl, Nat.le_refl _, by simp, (fun _ => rfl), Rd.nil _ _ _, fun x hx => by cases hx⟩
  · have hrest := (hsp rfl).1
    have bytesE : Try.prog.bytesOf 9 = 16 := by kernel_rfl
    have cellsE : Try.prog.cellsOf 9 = 1 := by kernel_rfl
    have hcap : cap * 16 ≤ reachBytes := by
      refine all_mem14 hw ?_
      simp only [DataW.weights, Try.underlying195, bytesE, List.length_map]
      rw [show elems.length + rest.length = cap by omega]
      exact List.mem_cons_self
    have hr47 : reachBytes ≤ 140737488355328 := by decide
    obtain ⟨l, hl, hf, hc⟩ := gatherT W a len (fun i hi => by
      have h1 := hel i hi
      rw [cellsE] at h1
      have hie : elems[i]? = some elems[i] := List.getElem?_eq_getElem (by omega)
      rw [hie] at h1
      obtain ⟨cs', hcs, htr⟩ := Option.bind_eq_some_iff.1 h1
      obtain ⟨_, hcl, hat⟩ := World.cells?_some hcs
      obtain ⟨y, rfl, _, hy⟩ := DataW.trod_string Try.underlying9 htr
      refine ⟨y, hy, fun r u hr => ?_⟩
      have hr3 : r < 1 := by have := (List.getElem?_eq_some_iff.1 hr).1; simpa using this
      have := hat r hr3
      rw [Go.Deep.add_add] at this
      exact this.trans hr)
    subst hl
    refine ⟨l, some a, cap, rfl, hlc, by omega, (fun e => by cases e), fun j u hj => ?_, hf⟩
    have hpos : 0 < (sts l).length := by have := (List.getElem?_eq_some_iff.1 hj).1; omega
    have h0 := hc 0 (sts l)[0] (List.getElem?_eq_getElem hpos)
    rw [show a.add 0 = a by simp [Addr.add]] at h0
    obtain ⟨b, off, rfl⟩ := plain_of_cell h0
    refine ⟨b, off, rfl, World.block_lt_of_cell? W _ h0, ?_⟩
    have := hc j u hj
    rwa [base.add_plain] at this
set_option maxRecDepth 100000 in
theorem open_texts_arg {r : Reach} {b0 : Nat} {v : Value} {d : DataW H} {p : List MemPlace} (hv : Value.okWide Try.prog W r b0 195 v) (h : DataW.Trod enc Try.prog W 0 (fun _ => true) true 195 v d p)
    (hw : (d.weights Try.prog 195).all (· ≤ reachBytes) = true) : ∃ (l : List ByteArray) (A : Option Addr) (c : Nat), v = .slice A l.length c ∧ Ts W W.heap.size l A c := by
  obtain ⟨a, len, cap, rfl⟩ := okWide_slice Try.underlying195 hv
  obtain ⟨m, hm⟩ := h
  obtain ⟨l, A, c, hcs, h1⟩ := open_texts hm hw
  simp [Value.cells] at hcs
  obtain ⟨rfl, rfl, rfl⟩ := hcs
  exact ⟨l, a, cap, rfl, h1⟩
end
structure SB where
  g : Int
  z : Int
  l : List SO
  lA : Option Addr
  lc : Nat
  t : List ByteArray
  tA : Option Addr
  tc : Nat
def SB.cells (x : SB) : List Value := [.int .i64 x.g, .int .i64 x.z, .slice x.lA x.l.length x.lc, .slice x.tA x.t.length x.tc]
abbrev SB.v (x : SB) : Value := .agg #[.int .i64 x.g, .int .i64 x.z, .slice x.lA x.l.length x.lc, .slice x.tA x.t.length x.tc]
def Bok (w : World) (B : Nat) (x : SB) : Prop := (-9223372036854775808 ≤ x.g ∧ x.g ≤ 9223372036854775807) ∧ (-9223372036854775808 ≤ x.z ∧ x.z ≤ 9223372036854775807) ∧ Os w B x.l x.lA x.lc ∧ Ts w B x.t x.tA x.tc
theorem Bok.below {w w' : World} {B : Nat} {x : SB} (h : Bok w B x) (hb : Below B w w') : Bok w' B x := ⟨h.1, h.2.1, (h.2.2.1).below hb, (h.2.2.2).below hb⟩
theorem Bok.more {w : World} {B B' : Nat} {x : SB} (h : Bok w B x) (hB : B ≤ B') : Bok w B' x := ⟨h.1, h.2.1, (h.2.2.1).more hB, (h.2.2.2).more hB⟩
section
variable {H : Type} {enc : TypeId × Value → H} {W : World}
end
end Go.Proofs.Ytoenkkbcpafanaa.segs
