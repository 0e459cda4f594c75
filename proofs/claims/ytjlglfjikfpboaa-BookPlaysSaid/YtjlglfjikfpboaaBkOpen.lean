/- Arguments opened: a call, lists of calls, lists of such lists, texts. -/
import Derived.Test.YtjlglfjikfpboaaBkO
import Derived.Test.YtjlglfjikfpboaaBkI
import Derived.Test.YtjlglfjikfpboaaVerO


namespace Go.Proofs.Ytjlglfjikfpboaa.books
set_option linter.unusedVariables false
set_option linter.unusedSimpArgs false
open Go.RowKit Go.ChangeShapes Go.WideShapes Go.Proofs.Ytjlglfjikfpboaa.base Go.Proofs.Ytjlglfjikfpboaa.vers Go.Proofs.Ytjlglfjikfpboaa.texts

theorem weightsAll_in {H : Type} {P : Program} {t : TypeId} {d : DataW H} : ∀ {l : List (DataW H)}, d ∈ l → ∀ n ∈ d.weights P t, n ∈ DataW.weightsAll P t l
  | x :: l, h, n, hn => by
    rw [DataW.weightsAll]
    rcases List.mem_cons.1 h with rfl | h
    · exact List.mem_append.2 (.inl hn)
    · exact List.mem_append.2 (.inr (weightsAll_in h n hn))

theorem gatherO (W : World) (a : Addr) (len : Nat) (h : ∀ i, i < len → ∃ x : O, (x.fits) ∧ ∀ r u, (x.cells)[r]? = some u → W.cell? (a.add (i * 4 + r)) = some u) :
    ∃ l : List O, l.length = len ∧ (∀ x ∈ l, x.fits) ∧ ∀ j u, (cellsO l)[j]? = some u → W.cell? (a.add j) = some u := by
  induction len with
  | zero => exact ⟨[], rfl, (fun x hx => by cases hx), fun j u h => by simp [cellsO] at h⟩
  | succ n ih =>
    obtain ⟨l, hl, hf, hc⟩ := ih (fun i hi => h i (by omega))
    obtain ⟨x, hx, hcs⟩ := h n (by omega)
    have hxl : (cellsO l).length = l.length * 4 := by rw [cellsO_len]; omega
    refine ⟨l ++ [x], by simp [hl], fun y hy => ?_, fun j u hj => ?_⟩
    · rcases List.mem_append.1 hy with e | e
      · exact hf y e
      · rw [List.mem_singleton.1 e]; exact hx
    · rw [cellsO_app] at hj
      rcases Nat.lt_or_ge j (cellsO l).length with hlt | hge
      · rw [List.getElem?_append_left hlt] at hj
        exact hc j u hj
      · rw [List.getElem?_append_right hge, show cellsO [x] = x.cells by simp [cellsO]] at hj
        have := hcs (j - (cellsO l).length) u hj
        rwa [show n * 4 + (j - (cellsO l).length) = j by omega] at this

theorem gatherB (W : World) (a : Addr) (len : Nat) (h : ∀ i, i < len → ∃ x : BL, (Os W W.heap.size x.l x.A x.c) ∧ ∀ r u, (x.cells)[r]? = some u → W.cell? (a.add (i * 1 + r)) = some u) :
    ∃ l : List BL, l.length = len ∧ (∀ x ∈ l, Os W W.heap.size x.l x.A x.c) ∧ ∀ j u, (cellsB l)[j]? = some u → W.cell? (a.add j) = some u := by
  induction len with
  | zero => exact ⟨[], rfl, (fun x hx => by cases hx), fun j u h => by simp [cellsB] at h⟩
  | succ n ih =>
    obtain ⟨l, hl, hf, hc⟩ := ih (fun i hi => h i (by omega))
    obtain ⟨x, hx, hcs⟩ := h n (by omega)
    have hxl : (cellsB l).length = l.length * 1 := by rw [cellsB_len, Nat.mul_one]
    refine ⟨l ++ [x], by simp [hl], fun y hy => ?_, fun j u hj => ?_⟩
    · rcases List.mem_append.1 hy with e | e
      · exact hf y e
      · rw [List.mem_singleton.1 e]; exact hx
    · rw [cellsB_app] at hj
      rcases Nat.lt_or_ge j (cellsB l).length with hlt | hge
      · rw [List.getElem?_append_left hlt] at hj
        exact hc j u hj
      · rw [List.getElem?_append_right hge, show cellsB [x] = x.cells by simp [cellsB]] at hj
        have := hcs (j - (cellsB l).length) u hj
        rwa [show n * 1 + (j - (cellsB l).length) = j by omega] at this

theorem gatherT (W : World) (a : Addr) (len : Nat) (h : ∀ i, i < len → ∃ x : ByteArray, (x.size ≤ maxLen) ∧ ∀ r u, ([Value.string x])[r]? = some u → W.cell? (a.add (i * 1 + r)) = some u) :
    ∃ l : List ByteArray, l.length = len ∧ (∀ x ∈ l, x.size ≤ maxLen) ∧ ∀ j u, (sts l)[j]? = some u → W.cell? (a.add j) = some u := by
  induction len with
  | zero => exact ⟨[], rfl, (fun x hx => by cases hx), fun j u h => by simp [sts] at h⟩
  | succ n ih =>
    obtain ⟨l, hl, hf, hc⟩ := ih (fun i hi => h i (by omega))
    obtain ⟨x, hx, hcs⟩ := h n (by omega)
    have hxl : (sts l).length = l.length * 1 := by simp [sts]
    refine ⟨l ++ [x], by simp [hl], fun y hy => ?_, fun j u hj => ?_⟩
    · rcases List.mem_append.1 hy with e | e
      · exact hf y e
      · rw [List.mem_singleton.1 e]; exact hx
    · rw [sts_append] at hj
      rcases Nat.lt_or_ge j (sts l).length with hlt | hge
      · rw [List.getElem?_append_left hlt] at hj
        exact hc j u hj
      · rw [List.getElem?_append_right hge, show sts [x] = [Value.string x] by simp [sts]] at hj
        have := hcs (j - (sts l).length) u hj
        rwa [show n * 1 + (j - (sts l).length) = j by omega] at this

section
variable {H : Type} {enc : TypeId × Value → H} {W : World}

set_option maxRecDepth 100000 in
theorem open_opcells {m : Nat} {cs : List Value} {x : DataW H × List MemPlace} (h : DataW.trod enc Try.prog W 0 (fun _ => true) true m 92 cs = some x) : ∃ y : O, cs = y.cells ∧ y.fits := by
  obtain ⟨ys, n, hn, hx, hlen, hyl, hf⟩ := DataW.trod_struct Try.underlying92 h
  have k4 : Try.prog.cellsOf 92 = 4 := by kernel_rfl
  rw [k4] at hlen
  match cs, hlen, ys, hyl with
  | [c0, c1, c2, c3], _, [y0, y1, y2, y3], _ =>
    have k3 : Try.prog.cellsOf 3 = 1 := by kernel_rfl
    have k9 : Try.prog.cellsOf 9 = 1 := by kernel_rfl
    have f0 : DataW.trod enc Try.prog W 0 (fun _ => true) true n 3 (List.take (Try.prog.cellsOf 3) (List.drop 0 [c0, c1, c2, c3])) = some y0 := hf 0 _ rfl
    have f1 : DataW.trod enc Try.prog W 0 (fun _ => true) true n 9 (List.take (Try.prog.cellsOf 9) (List.drop 1 [c0, c1, c2, c3])) = some y1 := hf 1 _ rfl
    have f2 : DataW.trod enc Try.prog W 0 (fun _ => true) true n 9 (List.take (Try.prog.cellsOf 9) (List.drop 2 [c0, c1, c2, c3])) = some y2 := hf 2 _ rfl
    have f3 : DataW.trod enc Try.prog W 0 (fun _ => true) true n 9 (List.take (Try.prog.cellsOf 9) (List.drop 3 [c0, c1, c2, c3])) = some y3 := hf 3 _ rfl
    rw [k3] at f0
    rw [k9] at f1 f2 f3
    obtain ⟨k, e0, _, w0⟩ := DataW.trod_int Try.underlying3 f0
    obtain ⟨s, e1, _, w1⟩ := DataW.trod_string Try.underlying9 f1
    obtain ⟨v, e2, _, w2⟩ := DataW.trod_string Try.underlying9 f2
    obtain ⟨t, e3, _, w3⟩ := DataW.trod_string Try.underlying9 f3
    simp at e0 e1 e2 e3
    subst e0 e1 e2 e3
    simp [Lit.wf, IntKind.has] at w0
    have h1 : IntKind.i64.min = -9223372036854775808 := rfl
    have h2 : IntKind.i64.max = 9223372036854775807 := rfl
    exact ⟨⟨k, s, v, t⟩, rfl, ⟨by show _ ≤ k; omega, by show k ≤ _; omega⟩, w1, w2, w3⟩
set_option maxRecDepth 100000 in
/-- a call that came in -/
theorem open_op {r : Reach} {b0 : Nat} {v : Value} {d : DataW H} {p : List MemPlace} (hv : Value.okWide Try.prog W r b0 92 v) (h : DataW.Trod enc Try.prog W 0 (fun _ => true) true 92 v d p) : ∃ o : O, v = .agg #[.int .i64 o.k, .string o.s, .string o.v, .string o.t] ∧ o.fits := by
  obtain ⟨cs, rfl, hsz⟩ := okWide_struct Try.underlying92 hv
  obtain ⟨m, hm⟩ := h
  obtain ⟨y, hcs, hf⟩ := open_opcells hm
  refine ⟨y, ?_, hf⟩
  have : cs.toList = [.int .i64 y.k, .string y.s, .string y.v, .string y.t] := by simpa [Value.cells, O.cells] using hcs
  rw [← Array.toArray_toList (xs := cs), this]

set_option maxRecDepth 100000 in
theorem open_ops {m : Nat} {cs : List Value} {x : DataW H × List MemPlace} (h : DataW.trod enc Try.prog W 0 (fun _ => true) true m 70 cs = some x) (hw : (x.1.weights Try.prog 70).all (· ≤ reachBytes) = true) :
    ∃ (l : List O) (A : Option Addr) (c : Nat), cs = [.slice A l.length c] ∧ Os W W.heap.size l A c := by
  rcases DataW.trod_slice Try.underlying70 h with ⟨rfl, _⟩ | ⟨a, len, cap, elems, rest, n, hn, rfl, rfl, _, hlc, hcm, hlen, hel, hsp, _⟩
  · exact ⟨[], none, 0, rfl, Nat.le_refl _, by simp, (fun _ => rfl), Rd.nil _ _ _, fun x hx => by cases hx⟩
  · have hrest := (hsp rfl).1
    have bytesE : Try.prog.bytesOf 92 = 56 := by kernel_rfl
    have cellsE : Try.prog.cellsOf 92 = 4 := by kernel_rfl
    have hcap : cap * 56 ≤ reachBytes := by
      refine all_mem hw ?_
      simp only [DataW.weights, Try.underlying70, bytesE, List.length_map]
      rw [show elems.length + rest.length = cap by omega]
      exact List.mem_cons_self
    have hr47 : reachBytes ≤ 140737488355328 := by decide
    obtain ⟨l, hl, hf, hc⟩ := gatherO W a len (fun i hi => by
      have h1 := hel i hi
      rw [cellsE] at h1
      have hie : elems[i]? = some elems[i] := List.getElem?_eq_getElem (by omega)
      rw [hie] at h1
      obtain ⟨cs', hcs, htr⟩ := Option.bind_eq_some_iff.1 h1
      obtain ⟨_, hcl, hat⟩ := World.cells?_some hcs
      obtain ⟨y, rfl, hy⟩ := open_opcells htr
      refine ⟨y, hy, fun r u hr => ?_⟩
      have hr3 : r < 4 := by have := (List.getElem?_eq_some_iff.1 hr).1; simpa [O.cells, BL.cells] using this
      have := hat r hr3
      rw [Go.Deep.add_add] at this
      exact this.trans hr)
    subst hl
    refine ⟨l, some a, cap, rfl, hlc, by omega, (fun e => by cases e), fun j u hj => ?_, hf⟩
    have hpos : 0 < (cellsO l).length := by have := (List.getElem?_eq_some_iff.1 hj).1; omega
    have h0 := hc 0 (cellsO l)[0] (List.getElem?_eq_getElem hpos)
    rw [show a.add 0 = a by simp [Addr.add]] at h0
    obtain ⟨b, off, rfl⟩ := plain_of_cell h0
    refine ⟨b, off, rfl, World.block_lt_of_cell? W _ h0, ?_⟩
    have := hc j u hj
    rwa [base.add_plain] at this
set_option maxRecDepth 100000 in
theorem open_ops_arg {r : Reach} {b0 : Nat} {v : Value} {d : DataW H} {p : List MemPlace} (hv : Value.okWide Try.prog W r b0 70 v) (h : DataW.Trod enc Try.prog W 0 (fun _ => true) true 70 v d p)
    (hw : (d.weights Try.prog 70).all (· ≤ reachBytes) = true) : ∃ (l : List O) (A : Option Addr) (c : Nat), v = .slice A l.length c ∧ Os W W.heap.size l A c := by
  obtain ⟨a, len, cap, rfl⟩ := okWide_slice Try.underlying70 hv
  obtain ⟨m, hm⟩ := h
  obtain ⟨l, A, c, hcs, h1⟩ := open_ops hm hw
  simp [Value.cells] at hcs
  obtain ⟨rfl, rfl, rfl⟩ := hcs
  exact ⟨l, a, cap, rfl, h1⟩

set_option maxRecDepth 100000 in
theorem open_texts {m : Nat} {cs : List Value} {x : DataW H × List MemPlace} (h : DataW.trod enc Try.prog W 0 (fun _ => true) true m 22 cs = some x) (hw : (x.1.weights Try.prog 22).all (· ≤ reachBytes) = true) :
    ∃ (l : List ByteArray) (A : Option Addr) (c : Nat), cs = [.slice A l.length c] ∧ Ts W W.heap.size l A c := by
  rcases DataW.trod_slice Try.underlying22 h with ⟨rfl, _⟩ | ⟨a, len, cap, elems, rest, n, hn, rfl, rfl, _, hlc, hcm, hlen, hel, hsp, _⟩
  · exact ⟨[], none, 0, rfl, Nat.le_refl _, by simp, (fun _ => rfl), Rd.nil _ _ _, fun x hx => by cases hx⟩
  · have hrest := (hsp rfl).1
    have bytesE : Try.prog.bytesOf 9 = 16 := by kernel_rfl
    have cellsE : Try.prog.cellsOf 9 = 1 := by kernel_rfl
    have hcap : cap * 16 ≤ reachBytes := by
      refine all_mem hw ?_
      simp only [DataW.weights, Try.underlying22, bytesE, List.length_map]
      rw [show elems.length + rest.length = cap by omega]
      exact List.mem_cons_self
    have hr47 : reachBytes ≤ 140737488355328 := by decide
    obtain ⟨l, hl, hf, hc⟩ := gatherT W a len (fun i hi => by
      have h1 := hel i hi
      rw [cellsE] at h1
      have hie : elems[i]? = some elems[i] := List.getElem?_eq_getElem (by omega)
      rw [hie] at h1
      obtain ⟨cs', hcs, htr⟩ := Option.bind_eq_some_iff.1 h1
      obtain ⟨_, hcl, hat⟩ := World.cells?_some hcs
      obtain ⟨y, rfl, _, hy⟩ := DataW.trod_string Try.underlying9 htr
      refine ⟨y, hy, fun r u hr => ?_⟩
      have hr3 : r < 1 := by have := (List.getElem?_eq_some_iff.1 hr).1; simpa [O.cells, BL.cells] using this
      have := hat r hr3
      rw [Go.Deep.add_add] at this
      exact this.trans hr)
    subst hl
    refine ⟨l, some a, cap, rfl, hlc, by omega, (fun e => by cases e), fun j u hj => ?_, hf⟩
    have hpos : 0 < (sts l).length := by have := (List.getElem?_eq_some_iff.1 hj).1; omega
    have h0 := hc 0 (sts l)[0] (List.getElem?_eq_getElem hpos)
    rw [show a.add 0 = a by simp [Addr.add]] at h0
    obtain ⟨b, off, rfl⟩ := plain_of_cell h0
    refine ⟨b, off, rfl, World.block_lt_of_cell? W _ h0, ?_⟩
    have := hc j u hj
    rwa [base.add_plain] at this
set_option maxRecDepth 100000 in
theorem open_texts_arg {r : Reach} {b0 : Nat} {v : Value} {d : DataW H} {p : List MemPlace} (hv : Value.okWide Try.prog W r b0 22 v) (h : DataW.Trod enc Try.prog W 0 (fun _ => true) true 22 v d p)
    (hw : (d.weights Try.prog 22).all (· ≤ reachBytes) = true) : ∃ (l : List ByteArray) (A : Option Addr) (c : Nat), v = .slice A l.length c ∧ Ts W W.heap.size l A c := by
  obtain ⟨a, len, cap, rfl⟩ := okWide_slice Try.underlying22 hv
  obtain ⟨m, hm⟩ := h
  obtain ⟨l, A, c, hcs, h1⟩ := open_texts hm hw
  simp [Value.cells] at hcs
  obtain ⟨rfl, rfl, rfl⟩ := hcs
  exact ⟨l, a, cap, rfl, h1⟩

set_option maxRecDepth 100000 in
theorem open_batches {m : Nat} {cs : List Value} {x : DataW H × List MemPlace} (h : DataW.trod enc Try.prog W 0 (fun _ => true) true m 88 cs = some x) (hw : (x.1.weights Try.prog 88).all (· ≤ reachBytes) = true) :
    ∃ (l : List BL) (A : Option Addr) (c : Nat), cs = [.slice A l.length c] ∧ Bs W W.heap.size l A c := by
  rcases DataW.trod_slice Try.underlying88 h with ⟨rfl, _⟩ | ⟨a, len, cap, elems, rest, n, hn, rfl, rfl, _, hlc, hcm, hlen, hel, hsp, _⟩
  · exact ⟨[], none, 0, rfl, Nat.le_refl _, by simp, (fun _ => rfl), Rd.nil _ _ _, fun x hx => by cases hx⟩
  · have hrest := (hsp rfl).1
    have bytesE : Try.prog.bytesOf 70 = 24 := by kernel_rfl
    have cellsE : Try.prog.cellsOf 70 = 1 := by kernel_rfl
    have hcap : cap * 24 ≤ reachBytes := by
      refine all_mem hw ?_
      simp only [DataW.weights, Try.underlying88, bytesE, List.length_map]
      rw [show elems.length + rest.length = cap by omega]
      exact List.mem_cons_self
    have hr47 : reachBytes ≤ 140737488355328 := by decide
    obtain ⟨l, hl, hf, hc⟩ := gatherB W a len (fun i hi => by
      have h1 := hel i hi
      rw [cellsE] at h1
      have hie : elems[i]? = some elems[i] := List.getElem?_eq_getElem (by omega)
      rw [hie] at h1
      obtain ⟨cs', hcs, htr⟩ := Option.bind_eq_some_iff.1 h1
      obtain ⟨_, hcl, hat⟩ := World.cells?_some hcs
      obtain ⟨l0, A0, c0, rfl, hy⟩ := open_ops htr (by
        rw [List.all_eq_true]
        intro n hn
        have : n ∈ DataW.weights Try.prog 88 (DataW.slice (elems.map (·.1)) (rest.map (·.1))) := by
          simp only [DataW.weights, Try.underlying88, List.mem_cons, List.mem_append]
          exact .inr (.inl (weightsAll_in (List.mem_map_of_mem (List.getElem_mem (by omega))) n hn))
        simpa using all_mem hw this)
      refine ⟨⟨l0, A0, c0⟩, hy, fun r u hr => ?_⟩
      have hr3 : r < 1 := by have := (List.getElem?_eq_some_iff.1 hr).1; simpa [O.cells, BL.cells] using this
      have := hat r hr3
      rw [Go.Deep.add_add] at this
      exact this.trans hr)
    subst hl
    refine ⟨l, some a, cap, rfl, hlc, by omega, (fun e => by cases e), fun j u hj => ?_, hf⟩
    have hpos : 0 < (cellsB l).length := by have := (List.getElem?_eq_some_iff.1 hj).1; omega
    have h0 := hc 0 (cellsB l)[0] (List.getElem?_eq_getElem hpos)
    rw [show a.add 0 = a by simp [Addr.add]] at h0
    obtain ⟨b, off, rfl⟩ := plain_of_cell h0
    refine ⟨b, off, rfl, World.block_lt_of_cell? W _ h0, ?_⟩
    have := hc j u hj
    rwa [base.add_plain] at this
set_option maxRecDepth 100000 in
theorem open_batches_arg {r : Reach} {b0 : Nat} {v : Value} {d : DataW H} {p : List MemPlace} (hv : Value.okWide Try.prog W r b0 88 v) (h : DataW.Trod enc Try.prog W 0 (fun _ => true) true 88 v d p)
    (hw : (d.weights Try.prog 88).all (· ≤ reachBytes) = true) : ∃ (l : List BL) (A : Option Addr) (c : Nat), v = .slice A l.length c ∧ Bs W W.heap.size l A c := by
  obtain ⟨a, len, cap, rfl⟩ := okWide_slice Try.underlying88 hv
  obtain ⟨m, hm⟩ := h
  obtain ⟨l, A, c, hcs, h1⟩ := open_batches hm hw
  simp [Value.cells] at hcs
  obtain ⟨rfl, rfl, rfl⟩ := hcs
  exact ⟨l, a, cap, rfl, h1⟩

end
end Go.Proofs.Ytjlglfjikfpboaa.books
