/- The arguments of cache's laws: numbers, calls. -/
import Derived.Test.YtoenkkbcpafanaaCcA
import Derived.Test.YtoenkkbcpafanaaTrO
import Derived.Lib.SmallJoins
import Derived.SizedLaws
import Derived.ProofKit
import Derived.OpenShut


namespace Go.Proofs.Ytoenkkbcpafanaa.caches
set_option linter.unusedVariables false
set_option linter.unusedSimpArgs false
open Go.RowKit Go.ChangeShapes Go.WideShapes Go.Proofs.Ytoenkkbcpafanaa.base Go.Proofs.Ytoenkkbcpafanaa.vers Go.Proofs.Ytoenkkbcpafanaa.nodes Go.Proofs.Ytoenkkbcpafanaa.trees

theorem all_mem14 {l : List Nat} (h : l.all (· ≤ reachBytes) = true) {n : Nat} (hn : n ∈ l) : n ≤ reachBytes := by
  simpa using List.all_eq_true.1 h n hn
theorem weightsAll_in14 {H : Type} {P : Program} {t : TypeId} {d : DataW H} : ∀ {l : List (DataW H)}, d ∈ l → ∀ n ∈ d.weights P t, n ∈ DataW.weightsAll P t l
  | x :: l, h, n, hn => by
    rw [DataW.weightsAll]
    rcases List.mem_cons.1 h with rfl | h
    · exact List.mem_append.2 (.inl hn)
    · exact List.mem_append.2 (.inr (weightsAll_in14 h n hn))
def NkOk (w : World) (B : Nat) (x : N) : Prop := Es w B x.es x.A x.c ∧ Ks w B x.ks x.Q x.m
theorem NkOk.below {w w' : World} {B : Nat} {x : N} (h : NkOk w B x) (hb : Below B w w') : NkOk w' B x := ⟨h.1.below hb, h.2.below hb⟩
theorem NkOk.more {w : World} {B B' : Nat} {x : N} (h : NkOk w B x) (hB : B ≤ B') : NkOk w B' x := ⟨h.1.more hB, h.2.more hB⟩
/-- a row of numbers, below block B -/
def its (l : List Int) : List Value := l.map (Value.int .i64)
theorem its_append (l m : List Int) : its (l ++ m) = its l ++ its m := by simp [its]
def Iok (x : Int) : Prop := -9223372036854775808 ≤ x ∧ x ≤ 9223372036854775807
def Is (w : World) (B : Nat) (l : List Int) (A : Option Addr) (c : Nat) : Prop := l.length ≤ c ∧ l.length * 8 ≤ 140737488355328 ∧ (A = none → c = 0) ∧ Rd w B A (its l) ∧ ∀ x ∈ l, Iok x
theorem Is.below {w w' : World} {B : Nat} {l : List Int} {A : Option Addr} {c : Nat} (h : Is w B l A c) (hb : Below B w w') : Is w' B l A c := ⟨h.1, h.2.1, h.2.2.1, h.2.2.2.1.keep fun _ hp => hb.cell hp, h.2.2.2.2⟩
theorem Is.more {w : World} {B B' : Nat} {l : List Int} {A : Option Addr} {c : Nat} (h : Is w B l A c) (hB : B ≤ B') : Is w B' l A c := ⟨h.1, h.2.1, h.2.2.1, h.2.2.2.1.more hB, h.2.2.2.2⟩
theorem Is.at_world {w wr : World} {l : List Int} {A : Option Addr} {c : Nat} (h : Is w w.heap.size l A c) (hb : Below w.heap.size w wr) : Is wr wr.heap.size l A c := (h.below hb).more hb.size
theorem Is.at_ {w : World} {B : Nat} {l : List Int} {A : Option Addr} {c : Nat} (h : Is w B l A c) {j : Nat} (hj : j < l.length) : ∃ b off, A = some ⟨b, off, none⟩ ∧ b < B ∧ w.cell? ⟨b, off + j, none⟩ = some (.int .i64 l[j]) ∧ Iok l[j] := by
  obtain ⟨b, off, e, hb, h0⟩ := h.2.2.2.1 j (.int .i64 l[j]) (by simp [its])
  exact ⟨b, off, e, hb, h0, h.2.2.2.2 _ (List.getElem_mem hj)⟩
theorem gatherI (W : World) (a : Addr) (len : Nat) (h : ∀ i, i < len → ∃ x : Int, (Iok x) ∧ ∀ r u, ([Value.int .i64 x])[r]? = some u → W.cell? (a.add (i * 1 + r)) = some u) :
    ∃ l : List Int, l.length = len ∧ (∀ x ∈ l, Iok x) ∧ ∀ j u, (its l)[j]? = some u → W.cell? (a.add j) = some u := by
  induction len with
  | zero => exact ⟨[], rfl, (fun x hx => by cases hx), fun j u h => by simp [its] at h⟩
  | succ n ih =>
    obtain ⟨l, hl, hf, hc⟩ := ih (fun i hi => h i (by omega))
    obtain ⟨x, hx, hcs⟩ := h n (by omega)
    have hxl : (its l).length = l.length * 1 := by simp [its]
    refine ⟨l ++ [x], by simp [hl], fun y hy => ?_, fun j u hj => ?_⟩
    · rcases List.mem_append.1 hy with e | e
      · exact hf y e
      · rw [List.mem_singleton.1 e]; exact hx
    · rw [its_append] at hj
      rcases Nat.lt_or_ge j (its l).length with hlt | hge
      · rw [List.getElem?_append_left hlt] at hj
        exact hc j u hj
      · rw [List.getElem?_append_right hge, show its [x] = [Value.int .i64 x] by simp [its]] at hj
        have := hcs (j - (its l).length) u hj
        rwa [show n * 1 + (j - (its l).length) = j by omega] at this

section
variable {H : Type} {enc : TypeId × Value → H} {W : World}
set_option maxRecDepth 100000 in
theorem open_ints {m : Nat} {cs : List Value} {x : DataW H × List MemPlace} (h : DataW.trod enc Try.prog W 0 (fun _ => true) true m 34 cs = some x) (hw : (x.1.weights Try.prog 34).all (· ≤ reachBytes) = true) :
    ∃ (l : List Int) (A : Option Addr) (c : Nat), cs = [.slice A l.length c] ∧ Is W W.heap.size l A c := by
  rcases DataW.trod_slice Try.underlying34 h with ⟨rfl, _⟩ | ⟨a, len, cap, elems, rest, n, hn, rfl, rfl, _, hlc, hcm, hlen, hel, hsp, _⟩
  · exact ⟨[], none, 0, rfl, Nat.le_refl _, by simp, (fun _ => rfl), Rd.nil _ _ _, fun x hx => by cases hx⟩
  · have hrest := (hsp rfl).1
    have bytesE : Try.prog.bytesOf 3 = 8 := by kernel_rfl
    have cellsE : Try.prog.cellsOf 3 = 1 := by kernel_rfl
    have hcap : cap * 8 ≤ reachBytes := by
      refine all_mem14 hw ?_
      simp only [DataW.weights, Try.underlying34, bytesE, List.length_map]
      rw [show elems.length + rest.length = cap by omega]
      exact List.mem_cons_self
    have hr47 : reachBytes ≤ 140737488355328 := by decide
    obtain ⟨l, hl, hf, hc⟩ := gatherI W a len (fun i hi => by
      have h1 := hel i hi
      rw [cellsE] at h1
      have hie : elems[i]? = some elems[i] := List.getElem?_eq_getElem (by omega)
      rw [hie] at h1
      obtain ⟨cs', hcs, htr⟩ := Option.bind_eq_some_iff.1 h1
      obtain ⟨_, hcl, hat⟩ := World.cells?_some hcs
      obtain ⟨y, rfl, _, hy0⟩ := DataW.trod_int Try.underlying3 htr
      simp [Lit.wf, IntKind.has] at hy0
      have h1 : IntKind.i64.min = -9223372036854775808 := rfl
      have h2 : IntKind.i64.max = 9223372036854775807 := rfl
      have hy : Iok y := ⟨by show _ ≤ y; omega, by show y ≤ _; omega⟩
      refine ⟨y, hy, fun r u hr => ?_⟩
      have hr3 : r < 1 := by have := (List.getElem?_eq_some_iff.1 hr).1; simpa using this
      have := hat r hr3
      rw [Go.Deep.add_add] at this
      exact this.trans hr)
    subst hl
    refine ⟨l, some a, cap, rfl, hlc, by omega, (fun e => by cases e), fun j u hj => ?_, hf⟩
    have hpos : 0 < (its l).length := by have := (List.getElem?_eq_some_iff.1 hj).1; omega
    have h0 := hc 0 (its l)[0] (List.getElem?_eq_getElem hpos)
    rw [show a.add 0 = a by simp [Addr.add]] at h0
    obtain ⟨b, off, rfl⟩ := plain_of_cell h0
    refine ⟨b, off, rfl, World.block_lt_of_cell? W _ h0, ?_⟩
    have := hc j u hj
    rwa [base.add_plain] at this
set_option maxRecDepth 100000 in
theorem open_ints_arg {r : Reach} {b0 : Nat} {v : Value} {d : DataW H} {p : List MemPlace} (hv : Value.okWide Try.prog W r b0 34 v) (h : DataW.Trod enc Try.prog W 0 (fun _ => true) true 34 v d p)
    (hw : (d.weights Try.prog 34).all (· ≤ reachBytes) = true) : ∃ (l : List Int) (A : Option Addr) (c : Nat), v = .slice A l.length c ∧ Is W W.heap.size l A c := by
  obtain ⟨a, len, cap, rfl⟩ := okWide_slice Try.underlying34 hv
  obtain ⟨m, hm⟩ := h
  obtain ⟨l, A, c, hcs, h1⟩ := open_ints hm hw
  simp [Value.cells] at hcs
  obtain ⟨rfl, rfl, rfl⟩ := hcs
  exact ⟨l, a, cap, rfl, h1⟩
end
structure CO where
  k : Int
  s : Int
  n : N
  l : List Int
  lA : Option Addr
  lc : Nat
def CO.cells (x : CO) : List Value := [.int .i64 x.k, .int .i64 x.s, .bool x.n.lf, .slice x.n.A x.n.es.length x.n.c, .slice x.n.Q x.n.ks.length x.n.m, .slice x.lA x.l.length x.lc]
abbrev CO.v (x : CO) : Value := .agg #[.int .i64 x.k, .int .i64 x.s, .bool x.n.lf, .slice x.n.A x.n.es.length x.n.c, .slice x.n.Q x.n.ks.length x.n.m, .slice x.lA x.l.length x.lc]
def Cok (w : World) (B : Nat) (x : CO) : Prop := (-9223372036854775808 ≤ x.k ∧ x.k ≤ 9223372036854775807) ∧ (-9223372036854775808 ≤ x.s ∧ x.s ≤ 9223372036854775807) ∧ NkOk w B x.n ∧ Is w B x.l x.lA x.lc
theorem Cok.below {w w' : World} {B : Nat} {x : CO} (h : Cok w B x) (hb : Below B w w') : Cok w' B x := ⟨h.1, h.2.1, (h.2.2.1).below hb, (h.2.2.2).below hb⟩
theorem Cok.more {w : World} {B B' : Nat} {x : CO} (h : Cok w B x) (hB : B ≤ B') : Cok w B' x := ⟨h.1, h.2.1, (h.2.2.1).more hB, (h.2.2.2).more hB⟩
def cellsC : List CO → List Value
  | [] => []
  | x :: l => x.cells ++ cellsC l
theorem cellsC_len : ∀ l : List CO, (cellsC l).length = l.length * 6
  | [] => rfl
  | x :: l => by rw [cellsC, List.length_append, cellsC_len l]; simp [CO.cells]; omega
theorem cellsC_app : ∀ l m : List CO, cellsC (l ++ m) = cellsC l ++ cellsC m
  | [], m => rfl
  | x :: l, m => by rw [List.cons_append, cellsC, cellsC_app l m, cellsC, List.append_assoc]
theorem cellsC_one (l : List CO) : ∀ u ∈ cellsC l, u.oneCell' = true := by
  induction l with
  | nil => intro u h; cases h
  | cons x l ih =>
    intro u h
    rcases List.mem_append.1 h with h | h
    · simp [CO.cells] at h
      rcases h with rfl | rfl | rfl | rfl | rfl | rfl <;> rfl
    · exact ih u h
theorem cellsC_at : ∀ (l : List CO) {j : Nat} (hj : j < l.length), (cellsC l)[j * 6]? = some (.int .i64 l[j].k) ∧ (cellsC l)[j * 6 + 1]? = some (.int .i64 l[j].s) ∧ (cellsC l)[j * 6 + 2]? = some (.bool l[j].n.lf) ∧ (cellsC l)[j * 6 + 3]? = some (.slice l[j].n.A l[j].n.es.length l[j].n.c) ∧ (cellsC l)[j * 6 + 4]? = some (.slice l[j].n.Q l[j].n.ks.length l[j].n.m) ∧ (cellsC l)[j * 6 + 5]? = some (.slice l[j].lA l[j].l.length l[j].lc)
  | x :: l, 0, _ => ⟨rfl, rfl, rfl, rfl, rfl, rfl⟩
  | x :: l, j + 1, hj => by
    have ih := cellsC_at l (j := j) (by simpa using hj)
    have h3 : x.cells.length = 6 := rfl
    simp only [cellsC, List.getElem_cons_succ]
    obtain ⟨i0, i1, i2, i3, i4, i5⟩ := ih
    refine ⟨?_, ?_, ?_, ?_, ?_, ?_⟩
    · rw [List.getElem?_append_right (by omega), h3, show (j + 1) * 6 - 6 = j * 6 by omega]; exact i0
    · rw [List.getElem?_append_right (by omega), h3, show (j + 1) * 6 + 1 - 6 = j * 6 + 1 by omega]; exact i1
    · rw [List.getElem?_append_right (by omega), h3, show (j + 1) * 6 + 2 - 6 = j * 6 + 2 by omega]; exact i2
    · rw [List.getElem?_append_right (by omega), h3, show (j + 1) * 6 + 3 - 6 = j * 6 + 3 by omega]; exact i3
    · rw [List.getElem?_append_right (by omega), h3, show (j + 1) * 6 + 4 - 6 = j * 6 + 4 by omega]; exact i4
    · rw [List.getElem?_append_right (by omega), h3, show (j + 1) * 6 + 5 - 6 = j * 6 + 5 by omega]; exact i5
/-- raw in a row, below block B -/
def Cs (w : World) (B : Nat) (l : List CO) (A : Option Addr) (c : Nat) : Prop := l.length ≤ c ∧ l.length * 96 ≤ 140737488355328 ∧ (A = none → c = 0) ∧ Rd w B A (cellsC l) ∧ ∀ x ∈ l, Cok w B x
theorem Cs.below {w w' : World} {B : Nat} {l : List CO} {A : Option Addr} {c : Nat} (h : Cs w B l A c) (hb : Below B w w') : Cs w' B l A c := ⟨h.1, h.2.1, h.2.2.1, h.2.2.2.1.keep fun _ hp => hb.cell hp, fun x hx => (h.2.2.2.2 x hx).below hb⟩
theorem Cs.more {w : World} {B B' : Nat} {l : List CO} {A : Option Addr} {c : Nat} (h : Cs w B l A c) (hB : B ≤ B') : Cs w B' l A c := ⟨h.1, h.2.1, h.2.2.1, h.2.2.2.1.more hB, fun x hx => (h.2.2.2.2 x hx).more hB⟩
theorem Cs.at_world {w wr : World} {l : List CO} {A : Option Addr} {c : Nat} (h : Cs w w.heap.size l A c) (hb : Below w.heap.size w wr) : Cs wr wr.heap.size l A c := (h.below hb).more hb.size
theorem Cs.at_ {w : World} {B : Nat} {l : List CO} {A : Option Addr} {c : Nat} (h : Cs w B l A c) {j : Nat} (hj : j < l.length) : ∃ b off, A = some ⟨b, off, none⟩ ∧ b < B ∧ w.cell? ⟨b, off + j * 6, none⟩ = some (.int .i64 l[j].k) ∧ w.cell? ⟨b, off + j * 6 + 1, none⟩ = some (.int .i64 l[j].s) ∧ w.cell? ⟨b, off + j * 6 + 2, none⟩ = some (.bool l[j].n.lf) ∧ w.cell? ⟨b, off + j * 6 + 3, none⟩ = some (.slice l[j].n.A l[j].n.es.length l[j].n.c) ∧ w.cell? ⟨b, off + j * 6 + 4, none⟩ = some (.slice l[j].n.Q l[j].n.ks.length l[j].n.m) ∧ w.cell? ⟨b, off + j * 6 + 5, none⟩ = some (.slice l[j].lA l[j].l.length l[j].lc) := by
  obtain ⟨c0, c1, c2, c3, c4, c5⟩ := cellsC_at l hj
  obtain ⟨b, off, e, hb, h0⟩ := h.2.2.2.1 _ _ c0
  obtain ⟨b1, off1, e1, hb1, h1⟩ := h.2.2.2.1 _ _ c1
  rw [e] at e1
  cases e1
  obtain ⟨b2, off2, e2, hb2, h2⟩ := h.2.2.2.1 _ _ c2
  rw [e] at e2
  cases e2
  obtain ⟨b3, off3, e3, hb3, h3⟩ := h.2.2.2.1 _ _ c3
  rw [e] at e3
  cases e3
  obtain ⟨b4, off4, e4, hb4, h4⟩ := h.2.2.2.1 _ _ c4
  rw [e] at e4
  cases e4
  obtain ⟨b5, off5, e5, hb5, h5⟩ := h.2.2.2.1 _ _ c5
  rw [e] at e5
  cases e5
  exact ⟨b, off, e, hb, h0, by rw [Nat.add_assoc]; exact h1, by rw [Nat.add_assoc]; exact h2, by rw [Nat.add_assoc]; exact h3, by rw [Nat.add_assoc]; exact h4, by rw [Nat.add_assoc]; exact h5⟩
/-- a list out of its elements -/
theorem gatherC (W : World) (a : Addr) (len : Nat) (h : ∀ i, i < len → ∃ x : CO, Cok W W.heap.size x ∧ ∀ r u, x.cells[r]? = some u → W.cell? (a.add (i * 6 + r)) = some u) :
    ∃ l : List CO, l.length = len ∧ (∀ x ∈ l, Cok W W.heap.size x) ∧ ∀ j u, (cellsC l)[j]? = some u → W.cell? (a.add j) = some u := by
  induction len with
  | zero => exact ⟨[], rfl, (fun x hx => by cases hx), fun j u h => by simp [cellsC] at h⟩
  | succ n ih =>
    obtain ⟨l, hl, hf, hc⟩ := ih (fun i hi => h i (by omega))
    obtain ⟨x, hx, hcs⟩ := h n (by omega)
    have hxl := cellsC_len l
    refine ⟨l ++ [x], by simp [hl], fun y hy => ?_, fun j u hj => ?_⟩
    · rcases List.mem_append.1 hy with e | e
      · exact hf y e
      · rw [List.mem_singleton.1 e]; exact hx
    · rw [cellsC_app] at hj
      rcases Nat.lt_or_ge j (cellsC l).length with hlt | hge
      · rw [List.getElem?_append_left hlt] at hj
        exact hc j u hj
      · rw [List.getElem?_append_right hge, show cellsC [x] = x.cells by simp [cellsC]] at hj
        have := hcs (j - (cellsC l).length) u hj
        rwa [show n * 6 + (j - (cellsC l).length) = j by omega] at this
theorem bytesC : Try.prog.bytesOf 89 = 96 := by kernel_rfl
theorem cellsCOf : Try.prog.cellsOf 89 = 6 := by kernel_rfl
section
variable {H : Type} {enc : TypeId × Value → H} {W : World}
set_option maxRecDepth 100000 in
theorem openC_one {m : Nat} {cs : List Value} {x : DataW H × List MemPlace} (h : DataW.trod enc Try.prog W 0 (fun _ => true) true m 89 cs = some x) (hw : (x.1.weights Try.prog 89).all (· ≤ reachBytes) = true) : ∃ y : CO, cs = y.cells ∧ Cok W W.heap.size y := by
  obtain ⟨ys, n, hn, hx, hlen, hyl, hf⟩ := DataW.trod_struct Try.underlying89 h
  rw [cellsCOf] at hlen
  match cs, hlen, ys, hyl with
  | [c0, c1, c2, c3, c4, c5], _, [y0, y1, y2, y3], _ =>
    have f0 : DataW.trod enc Try.prog W 0 (fun _ => true) true n 3 (List.take (Try.prog.cellsOf 3) (List.drop 0 [c0, c1, c2, c3, c4, c5])) = some y0 := hf 0 _ rfl
    rw [show Try.prog.cellsOf 3 = 1 by kernel_rfl] at f0
    have f1 : DataW.trod enc Try.prog W 0 (fun _ => true) true n 3 (List.take (Try.prog.cellsOf 3) (List.drop 1 [c0, c1, c2, c3, c4, c5])) = some y1 := hf 1 _ rfl
    rw [show Try.prog.cellsOf 3 = 1 by kernel_rfl] at f1
    have f2 : DataW.trod enc Try.prog W 0 (fun _ => true) true n 87 (List.take (Try.prog.cellsOf 87) (List.drop 2 [c0, c1, c2, c3, c4, c5])) = some y2 := hf 2 _ rfl
    rw [show Try.prog.cellsOf 87 = 3 by kernel_rfl] at f2
    have f3 : DataW.trod enc Try.prog W 0 (fun _ => true) true n 34 (List.take (Try.prog.cellsOf 34) (List.drop 5 [c0, c1, c2, c3, c4, c5])) = some y3 := hf 3 _ rfl
    rw [show Try.prog.cellsOf 34 = 1 by kernel_rfl] at f3
    obtain ⟨v0, e0, _, w0⟩ := DataW.trod_int Try.underlying3 f0
    obtain ⟨v1, e1, _, w1⟩ := DataW.trod_int Try.underlying3 f1
    obtain ⟨v2, e2, w2⟩ := open_ncells f2 (by
      rw [List.all_eq_true]
      intro n hn
      have : n ∈ x.1.weights Try.prog 89 := by
        rw [hx]
        simp only [DataW.weights, Try.underlying89, DataW.weightsEach, List.map_cons, List.mem_append]
        exact .inr (.inr (.inl hn))
      simpa using all_mem14 hw this)
    simp only [N.cells] at e2
    obtain ⟨v3, v3A, v3c, e3, w3⟩ := open_ints f3 (by
      rw [List.all_eq_true]
      intro n hn
      have : n ∈ x.1.weights Try.prog 89 := by
        rw [hx]
        simp only [DataW.weights, Try.underlying89, DataW.weightsEach, List.map_cons, List.mem_append]
        exact .inr (.inr (.inr (.inl hn)))
      simpa using all_mem14 hw this)
    simp at e0 e1 e2 e3
    obtain ⟨e2, e2x, e2y⟩ := e2
    subst e0 e1 e2 e2x e2y e3
    simp [Lit.wf, IntKind.has] at w0 w1
    have h1 : IntKind.i64.min = -9223372036854775808 := rfl
    have h2 : IntKind.i64.max = 9223372036854775807 := rfl
    exact ⟨⟨v0, v1, v2, v3, v3A, v3c⟩, rfl, ⟨by show _ ≤ v0; omega, by show v0 ≤ _; omega⟩, ⟨by show _ ≤ v1; omega, by show v1 ≤ _; omega⟩, w2, w3⟩
set_option maxRecDepth 100000 in
theorem openC_row {m : Nat} {cs : List Value} {x : DataW H × List MemPlace} (h : DataW.trod enc Try.prog W 0 (fun _ => true) true m 76 cs = some x) (hw : (x.1.weights Try.prog 76).all (· ≤ reachBytes) = true) :
    ∃ (l : List CO) (A : Option Addr) (c : Nat), cs = [.slice A l.length c] ∧ Cs W W.heap.size l A c := by
  rcases DataW.trod_slice Try.underlying76 h with ⟨rfl, _⟩ | ⟨a, len, cap, elems, rest, n, hn, rfl, rfl, _, hlc, hcm, hlen, hel, hsp, _⟩
  · exact ⟨[], none, 0, rfl, Nat.le_refl _, by simp, (fun _ => rfl), Rd.nil _ _ _, fun x hx => by cases hx⟩
  · have hrest := (hsp rfl).1
    have hcap : cap * 96 ≤ reachBytes := by
      refine all_mem14 hw ?_
      simp only [DataW.weights, Try.underlying76, bytesC, List.length_map]
      rw [show elems.length + rest.length = cap by omega]
      exact List.mem_cons_self
    have hr47 : reachBytes ≤ 140737488355328 := by decide
    obtain ⟨l, hl, hf, hc⟩ := gatherC W a len (fun i hi => by
      have h1 := hel i hi
      rw [cellsCOf] at h1
      have hie : elems[i]? = some elems[i] := List.getElem?_eq_getElem (by omega)
      rw [hie] at h1
      obtain ⟨cs', hcs, htr⟩ := Option.bind_eq_some_iff.1 h1
      obtain ⟨_, hcl, hat⟩ := World.cells?_some hcs
      obtain ⟨y, rfl, hy⟩ := openC_one htr (by
        rw [List.all_eq_true]
        intro n hn
        have : n ∈ DataW.weights Try.prog 76 (DataW.slice (elems.map (·.1)) (rest.map (·.1))) := by
          simp only [DataW.weights, Try.underlying76, List.mem_cons, List.mem_append]
          exact .inr (.inl (weightsAll_in14 (List.mem_map_of_mem (List.getElem_mem (by omega))) n hn))
        simpa using all_mem14 hw this)
      refine ⟨y, hy, fun r u hr => ?_⟩
      have hr3 : r < 6 := by have := (List.getElem?_eq_some_iff.1 hr).1; simpa [CO.cells] using this
      have := hat r hr3
      rw [Go.Deep.add_add] at this
      rw [this, hr])
    subst hl
    refine ⟨l, some a, cap, rfl, hlc, by omega, (fun e => by cases e), fun j u hj => ?_, hf⟩
    have hpos : 0 < (cellsC l).length := by have := (List.getElem?_eq_some_iff.1 hj).1; omega
    have h0 := hc 0 (cellsC l)[0] (List.getElem?_eq_getElem hpos)
    rw [show a.add 0 = a by simp [Addr.add]] at h0
    obtain ⟨b, off, rfl⟩ := plain_of_cell h0
    refine ⟨b, off, rfl, World.block_lt_of_cell? W _ h0, ?_⟩
    have := hc j u hj
    rwa [base.add_plain] at this
set_option maxRecDepth 100000 in
theorem openC_arg {r : Reach} {b0 : Nat} {v : Value} {d : DataW H} {p : List MemPlace} (hv : Value.okWide Try.prog W r b0 76 v) (h : DataW.Trod enc Try.prog W 0 (fun _ => true) true 76 v d p)
    (hw : (d.weights Try.prog 76).all (· ≤ reachBytes) = true) : ∃ (l : List CO) (A : Option Addr) (c : Nat), v = .slice A l.length c ∧ Cs W W.heap.size l A c := by
  obtain ⟨a, len, cap, rfl⟩ := okWide_slice Try.underlying76 hv
  obtain ⟨m, hm⟩ := h
  obtain ⟨l, A, c, hcs, h1⟩ := openC_row hm hw
  simp [Value.cells] at hcs
  obtain ⟨rfl, rfl, rfl⟩ := hcs
  exact ⟨l, a, cap, rfl, h1⟩
end
end Go.Proofs.Ytoenkkbcpafanaa.caches
