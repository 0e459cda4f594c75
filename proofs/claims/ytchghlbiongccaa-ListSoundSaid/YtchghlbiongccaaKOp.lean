/- Secrets and texts as arguments. -/
import Derived.Test.YtchghlbiongccaaKLsC
import Derived.Test.YtchghlbiongccaaKNdO


namespace Go.Proofs.Ytchghlbiongccaa.trees
set_option linter.unusedVariables false
set_option linter.unusedSimpArgs false
open Go.RowKit Go.ChangeShapes Go.WideShapes Go.Proofs.Ytchghlbiongccaa.base Go.Proofs.Ytchghlbiongccaa.vers Go.Proofs.Ytchghlbiongccaa.nodes

theorem gatherT (W : World) (a : Addr) (len : Nat) (h : ∀ i, i < len → ∃ x : ByteArray, (x.size ≤ maxLen) ∧ ∀ r u, ([Value.string x])[r]? = some u → W.cell? (a.add (i * 1 + r)) = some u) :
    ∃ l : List ByteArray, l.length = len ∧ (∀ x ∈ l, x.size ≤ maxLen) ∧ ∀ j u, (sts l)[j]? = some u → W.cell? (a.add j) = some u := by
  induction len with
  | zero => exact ⟨[], rfl, (fun x hx => by cases hx), fun j u h => by simp [sts] at h⟩
  | succ n ih =>
    obtain ⟨l, hl, hf, hc⟩ := ih (fun i hi => h i (by omega))
    obtain ⟨x, hx, hcs⟩ := h n (by omega)
    have hxl : (sts l).length = l.length * 1 := by simp [sts]
    refine ⟨l ++ [x], by simp [hl], fun y hy => ?_, fun j u hj => ?_⟩
    · rcases List.mem_append.1 hy with e | e
      · exact hf y e
      · rw [List.mem_singleton.1 e]; exact hx
    · rw [sts_append] at hj
      rcases Nat.lt_or_ge j (sts l).length with hlt | hge
      · rw [List.getElem?_append_left hlt] at hj
        exact hc j u hj
      · rw [List.getElem?_append_right hge, show sts [x] = [Value.string x] by simp [sts]] at hj
        have := hcs (j - (sts l).length) u hj
        rwa [show n * 1 + (j - (sts l).length) = j by omega] at this

section
variable {H : Type} {enc : TypeId × Value → H} {W : World}
set_option maxRecDepth 100000 in
theorem open_texts {m : Nat} {cs : List Value} {x : DataW H × List MemPlace} (h : DataW.trod enc Try.prog W 0 (fun _ => true) true m 40 cs = some x) (hw : (x.1.weights Try.prog 40).all (· ≤ reachBytes) = true) :
    ∃ (l : List ByteArray) (A : Option Addr) (c : Nat), cs = [.slice A l.length c] ∧ Ts W W.heap.size l A c := by
  rcases DataW.trod_slice Try.underlying40 h with ⟨rfl, _⟩ | ⟨a, len, cap, elems, rest, n, hn, rfl, rfl, _, hlc, hcm, hlen, hel, hsp, _⟩
  · exact ⟨[], none, 0, rfl, Nat.le_refl _, by simp, (fun _ => rfl), Rd.nil _ _ _, fun x hx => by cases hx⟩
  · have hrest := (hsp rfl).1
    have bytesE : Try.prog.bytesOf 9 = 16 := by kernel_rfl
    have cellsE : Try.prog.cellsOf 9 = 1 := by kernel_rfl
    have hcap : cap * 16 ≤ reachBytes := by
      refine all_mem hw ?_
      simp only [DataW.weights, Try.underlying40, bytesE, List.length_map]
      rw [show elems.length + rest.length = cap by omega]
      exact List.mem_cons_self
    have hr47 : reachBytes ≤ 140737488355328 := by decide
    obtain ⟨l, hl, hf, hc⟩ := gatherT W a len (fun i hi => by
      have h1 := hel i hi
      rw [cellsE] at h1
      have hie : elems[i]? = some elems[i] := List.getElem?_eq_getElem (by omega)
      rw [hie] at h1
      obtain ⟨cs', hcs, htr⟩ := Option.bind_eq_some_iff.1 h1
      obtain ⟨_, hcl, hat⟩ := World.cells?_some hcs
      obtain ⟨y, rfl, _, hy⟩ := DataW.trod_string Try.underlying9 htr
      refine ⟨y, hy, fun r u hr => ?_⟩
      have hr3 : r < 1 := by have := (List.getElem?_eq_some_iff.1 hr).1; simpa using this
      have := hat r hr3
      rw [Go.Deep.add_add] at this
      exact this.trans hr)
    subst hl
    refine ⟨l, some a, cap, rfl, hlc, by omega, (fun e => by cases e), fun j u hj => ?_, hf⟩
    have hpos : 0 < (sts l).length := by have := (List.getElem?_eq_some_iff.1 hj).1; omega
    have h0 := hc 0 (sts l)[0] (List.getElem?_eq_getElem hpos)
    rw [show a.add 0 = a by simp [Addr.add]] at h0
    obtain ⟨b, off, rfl⟩ := plain_of_cell h0
    refine ⟨b, off, rfl, World.block_lt_of_cell? W _ h0, ?_⟩
    have := hc j u hj
    rwa [base.add_plain] at this
set_option maxRecDepth 100000 in
theorem open_texts_arg {r : Reach} {b0 : Nat} {v : Value} {d : DataW H} {p : List MemPlace} (hv : Value.okWide Try.prog W r b0 40 v) (h : DataW.Trod enc Try.prog W 0 (fun _ => true) true 40 v d p)
    (hw : (d.weights Try.prog 40).all (· ≤ reachBytes) = true) : ∃ (l : List ByteArray) (A : Option Addr) (c : Nat), v = .slice A l.length c ∧ Ts W W.heap.size l A c := by
  obtain ⟨a, len, cap, rfl⟩ := okWide_slice Try.underlying40 hv
  obtain ⟨m, hm⟩ := h
  obtain ⟨l, A, c, hcs, h1⟩ := open_texts hm hw
  simp [Value.cells] at hcs
  obtain ⟨rfl, rfl, rfl⟩ := hcs
  exact ⟨l, a, cap, rfl, h1⟩
set_option maxRecDepth 100000 in
theorem open_entries {r : Reach} {b0 : Nat} {v : Value} {d : DataW H} {p : List MemPlace} (hv : Value.okWide Try.prog W r b0 39 v) (h : DataW.Trod enc Try.prog W 0 (fun _ => true) true 39 v d p)
    (hw : (d.weights Try.prog 39).all (· ≤ reachBytes) = true) : ∃ (l : List E) (A : Option Addr) (c : Nat), v = .slice A l.length c ∧ Es W W.heap.size l A c := by
  obtain ⟨a, len, cap, rfl⟩ := okWide_slice Try.underlying39 hv
  obtain ⟨m, hm⟩ := h
  obtain ⟨l, A, c, hcs, h1⟩ := nodes.open_es hm hw
  simp [Value.cells] at hcs
  obtain ⟨rfl, rfl, rfl⟩ := hcs
  exact ⟨l, a, cap, rfl, h1⟩
end

end Go.Proofs.Ytchghlbiongccaa.trees
