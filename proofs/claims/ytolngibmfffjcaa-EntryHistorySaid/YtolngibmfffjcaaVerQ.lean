/- Arguments opened: a list of calls of EntryHistory. -/
import Derived.Test.YtolngibmfffjcaaVerM
import Derived.Test.YtolngibmfffjcaaVerO


namespace Go.Proofs.Ytolngibmfffjcaa.vers
set_option linter.unusedVariables false
set_option linter.unusedSimpArgs false
open Go.RowKit Go.ChangeShapes Go.WideShapes Go.Proofs.Ytolngibmfffjcaa.base

theorem bytes40c : Try.prog.bytesOf 53 = 40 := by kernel_rfl
theorem cells3c : Try.prog.cellsOf 53 = 3 := by kernel_rfl

/-- a list out of its elements -/
theorem gatherC (W : World) (a : Addr) (len : Nat) (h : ∀ i, i < len → ∃ x : C, (x.v.size ≤ maxLen ∧ x.t.size ≤ maxLen) ∧ ∀ r u, x.cells[r]? = some u → W.cell? (a.add (i * 3 + r)) = some u) :
    ∃ l : List C, l.length = len ∧ (∀ x ∈ l, x.v.size ≤ maxLen ∧ x.t.size ≤ maxLen) ∧ ∀ j u, (cellsC l)[j]? = some u → W.cell? (a.add j) = some u := by
  induction len with
  | zero => exact ⟨[], rfl, (fun x hx => by cases hx), fun j u h => by simp [cellsC] at h⟩
  | succ n ih =>
    obtain ⟨l, hl, hf, hc⟩ := ih (fun i hi => h i (by omega))
    obtain ⟨x, hx, hcs⟩ := h n (by omega)
    have hxl := cellsC_len l
    refine ⟨l ++ [x], by simp [hl], fun y hy => ?_, fun j u hj => ?_⟩
    · rcases List.mem_append.1 hy with e | e
      · exact hf y e
      · rw [List.mem_singleton.1 e]; exact hx
    · rw [cellsC_app] at hj
      rcases Nat.lt_or_ge j (cellsC l).length with hlt | hge
      · rw [List.getElem?_append_left hlt] at hj
        exact hc j u hj
      · rw [List.getElem?_append_right hge, show cellsC [x] = x.cells by simp [cellsC]] at hj
        have := hcs (j - (cellsC l).length) u hj
        rwa [show n * 3 + (j - (cellsC l).length) = j by omega] at this

section
variable {H : Type} {enc : TypeId × Value → H} {W : World}

set_option maxRecDepth 100000 in
theorem open_call {m : Nat} {cs : List Value} {x : DataW H × List MemPlace} (h : DataW.trod enc Try.prog W 0 (fun _ => true) true m 53 cs = some x) : ∃ y : C, cs = y.cells ∧ y.v.size ≤ maxLen ∧ y.t.size ≤ maxLen := by
  obtain ⟨ys, n, hn, hx, hlen, hyl, hf⟩ := DataW.trod_struct Try.underlying53 h
  rw [cells3c] at hlen
  match cs, hlen, ys, hyl with
  | [c0, c1, c2], _, [y0, y1, y2], _ =>
    have k3 : Try.prog.cellsOf 4 = 1 := by kernel_rfl
    have k9 : Try.prog.cellsOf 9 = 1 := by kernel_rfl
    have f0 : DataW.trod enc Try.prog W 0 (fun _ => true) true n 4 (List.take (Try.prog.cellsOf 4) (List.drop 0 [c0, c1, c2])) = some y0 := hf 0 _ rfl
    have f1 : DataW.trod enc Try.prog W 0 (fun _ => true) true n 9 (List.take (Try.prog.cellsOf 9) (List.drop 1 [c0, c1, c2])) = some y1 := hf 1 _ rfl
    have f2 : DataW.trod enc Try.prog W 0 (fun _ => true) true n 9 (List.take (Try.prog.cellsOf 9) (List.drop 2 [c0, c1, c2])) = some y2 := hf 2 _ rfl
    rw [k3] at f0
    rw [k9] at f1 f2
    obtain ⟨k, e0, _⟩ := DataW.trod_bool Try.underlying4 f0
    obtain ⟨s, e1, _, w1⟩ := DataW.trod_string Try.underlying9 f1
    obtain ⟨t, e2, _, w2⟩ := DataW.trod_string Try.underlying9 f2
    simp at e0 e1 e2
    subst e0 e1 e2
    exact ⟨⟨k, s, t⟩, rfl, w1, w2⟩

set_option maxRecDepth 100000 in
theorem open_cs {m : Nat} {cs : List Value} {x : DataW H × List MemPlace} (h : DataW.trod enc Try.prog W 0 (fun _ => true) true m 51 cs = some x) (hw : (x.1.weights Try.prog 51).all (· ≤ reachBytes) = true) :
    ∃ (l : List C) (A : Option Addr) (c : Nat), cs = [.slice A l.length c] ∧ Cs W W.heap.size l A c := by
  rcases DataW.trod_slice Try.underlying51 h with ⟨rfl, _⟩ | ⟨a, len, cap, elems, rest, n, hn, rfl, rfl, _, hlc, hcm, hlen, hel, hsp, _⟩
  · exact ⟨[], none, 0, rfl, Nat.le_refl _, by simp, (fun _ => rfl), Rd.nil _ _ _, fun x hx => by cases hx⟩
  · have hrest := (hsp rfl).1
    have hcap : cap * 40 ≤ reachBytes := by
      refine all_mem hw ?_
      simp only [DataW.weights, Try.underlying51, bytes40c, List.length_map]
      rw [show elems.length + rest.length = cap by omega]
      exact List.mem_cons_self
    have hr47 : reachBytes ≤ 140737488355328 := by decide
    obtain ⟨l, hl, hf, hc⟩ := gatherC W a len (fun i hi => by
      have h1 := hel i hi
      rw [cells3c] at h1
      have hie : elems[i]? = some elems[i] := List.getElem?_eq_getElem (by omega)
      rw [hie] at h1
      obtain ⟨cs', hcs, htr⟩ := Option.bind_eq_some_iff.1 h1
      obtain ⟨_, hcl, hat⟩ := World.cells?_some hcs
      obtain ⟨y, rfl, hy⟩ := open_call htr
      refine ⟨y, hy, fun r u hr => ?_⟩
      have hr3 : r < 3 := by have := (List.getElem?_eq_some_iff.1 hr).1; simpa [C.cells] using this
      have := hat r hr3
      rw [Go.Deep.add_add] at this
      rw [this, hr])
    subst hl
    refine ⟨l, some a, cap, rfl, hlc, by omega, (fun e => by cases e), fun j u hj => ?_, hf⟩
    have hpos : 0 < (cellsC l).length := by have := (List.getElem?_eq_some_iff.1 hj).1; omega
    have h0 := hc 0 (cellsC l)[0] (List.getElem?_eq_getElem hpos)
    rw [show a.add 0 = a by simp [Addr.add]] at h0
    obtain ⟨b, off, rfl⟩ := plain_of_cell h0
    refine ⟨b, off, rfl, World.block_lt_of_cell? W _ h0, ?_⟩
    have := hc j u hj
    rwa [base.add_plain] at this

set_option maxRecDepth 100000 in
/-- a list of calls that came in -/
theorem open_calls {r : Reach} {b0 : Nat} {v : Value} {d : DataW H} {p : List MemPlace} (hv : Value.okWide Try.prog W r b0 51 v) (h : DataW.Trod enc Try.prog W 0 (fun _ => true) true 51 v d p)
    (hw : (d.weights Try.prog 51).all (· ≤ reachBytes) = true) : ∃ (l : List C) (A : Option Addr) (c : Nat), v = .slice A l.length c ∧ Cs W W.heap.size l A c := by
  obtain ⟨a, len, cap, rfl⟩ := okWide_slice Try.underlying51 hv
  obtain ⟨m, hm⟩ := h
  obtain ⟨l, A, c, hcs, h1⟩ := open_cs hm hw
  simp [Value.cells] at hcs
  obtain ⟨rfl, rfl, rfl⟩ := hcs
  exact ⟨l, a, cap, rfl, h1⟩
end
end Go.Proofs.Ytolngibmfffjcaa.vers
