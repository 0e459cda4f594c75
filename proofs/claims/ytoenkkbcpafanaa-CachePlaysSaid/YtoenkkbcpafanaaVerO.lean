/- Arguments opened: a secret, a list of versions. -/
import Derived.Test.YtoenkkbcpafanaaVer
import Derived.Lib.SmallJoins
import Derived.SizedLaws
import Derived.ProofKit
import Derived.OpenShut


namespace Go.Proofs.Ytoenkkbcpafanaa.vers
set_option linter.unusedVariables false
set_option linter.unusedSimpArgs false
open Go.RowKit Go.ChangeShapes Go.WideShapes Go.Proofs.Ytoenkkbcpafanaa.base

theorem bytes40 : Try.prog.bytesOf 180 = 40 := by kernel_rfl
theorem cells3 : Try.prog.cellsOf 180 = 3 := by kernel_rfl
theorem cells2 : Try.prog.cellsOf 47 = 2 := by kernel_rfl

theorem all_mem {l : List Nat} (h : l.all (· ≤ reachBytes) = true) {n : Nat} (hn : n ∈ l) : n ≤ reachBytes := by
  simpa using List.all_eq_true.1 h n hn

/-- a list out of its elements -/
theorem gather (W : World) (a : Addr) (len : Nat) (h : ∀ i, i < len → ∃ x : V, x.fits ∧ ∀ r u, x.cells[r]? = some u → W.cell? (a.add (i * 3 + r)) = some u) :
    ∃ l : List V, l.length = len ∧ (∀ x ∈ l, x.fits) ∧ ∀ j u, (cellsV l)[j]? = some u → W.cell? (a.add j) = some u := by
  induction len with
  | zero => exact ⟨[], rfl, (fun x hx => by cases hx), fun j u h => by simp [cellsV] at h⟩
  | succ n ih =>
    obtain ⟨l, hl, hf, hc⟩ := ih (fun i hi => h i (by omega))
    obtain ⟨x, hx, hcs⟩ := h n (by omega)
    have hxl := cellsV_len l
    refine ⟨l ++ [x], by simp [hl], fun y hy => ?_, fun j u hj => ?_⟩
    · rcases List.mem_append.1 hy with e | e
      · exact hf y e
      · rw [List.mem_singleton.1 e]; exact hx
    · rw [cellsV_app] at hj
      rcases Nat.lt_or_ge j (cellsV l).length with hlt | hge
      · rw [List.getElem?_append_left hlt] at hj
        exact hc j u hj
      · rw [List.getElem?_append_right hge, show cellsV [x] = x.cells by simp [cellsV]] at hj
        have := hcs (j - (cellsV l).length) u hj
        rwa [show n * 3 + (j - (cellsV l).length) = j by omega] at this

section
variable {H : Type} {enc : TypeId × Value → H} {W : World}

set_option maxRecDepth 100000 in
theorem open_version {m : Nat} {cs : List Value} {x : DataW H × List MemPlace} (h : DataW.trod enc Try.prog W 0 (fun _ => true) true m 180 cs = some x) : ∃ y : V, cs = y.cells ∧ y.fits := by
  obtain ⟨ys, n, hn, hx, hlen, hyl, hf⟩ := DataW.trod_struct Try.underlying180 h
  rw [cells3] at hlen
  match cs, hlen, ys, hyl with
  | [c0, c1, c2], _, [y0, y1, y2], _ =>
    have k3 : Try.prog.cellsOf 3 = 1 := by kernel_rfl
    have k9 : Try.prog.cellsOf 9 = 1 := by kernel_rfl
    have f0 : DataW.trod enc Try.prog W 0 (fun _ => true) true n 3 (List.take (Try.prog.cellsOf 3) (List.drop 0 [c0, c1, c2])) = some y0 := hf 0 _ rfl
    have f1 : DataW.trod enc Try.prog W 0 (fun _ => true) true n 9 (List.take (Try.prog.cellsOf 9) (List.drop 1 [c0, c1, c2])) = some y1 := hf 1 _ rfl
    have f2 : DataW.trod enc Try.prog W 0 (fun _ => true) true n 9 (List.take (Try.prog.cellsOf 9) (List.drop 2 [c0, c1, c2])) = some y2 := hf 2 _ rfl
    rw [k3] at f0
    rw [k9] at f1 f2
    obtain ⟨k, e0, _, w0⟩ := DataW.trod_int Try.underlying3 f0
    obtain ⟨s, e1, _, w1⟩ := DataW.trod_string Try.underlying9 f1
    obtain ⟨t, e2, _, w2⟩ := DataW.trod_string Try.underlying9 f2
    simp at e0 e1 e2
    subst e0 e1 e2
    simp [Lit.wf, IntKind.has] at w0
    have h1 : IntKind.i64.min = -9223372036854775808 := rfl
    have h2 : IntKind.i64.max = 9223372036854775807 := rfl
    exact ⟨⟨k, s, t⟩, rfl, ⟨by show _ ≤ k; omega, by show k ≤ _; omega⟩, w1, w2⟩

set_option maxRecDepth 100000 in
theorem open_vs {m : Nat} {cs : List Value} {x : DataW H × List MemPlace} (h : DataW.trod enc Try.prog W 0 (fun _ => true) true m 45 cs = some x) (hw : (x.1.weights Try.prog 45).all (· ≤ reachBytes) = true) :
    ∃ (l : List V) (A : Option Addr) (c : Nat), cs = [.slice A l.length c] ∧ Vs W W.heap.size l A c := by
  rcases DataW.trod_slice Try.underlying45 h with ⟨rfl, _⟩ | ⟨a, len, cap, elems, rest, n, hn, rfl, rfl, _, hlc, hcm, hlen, hel, hsp, _⟩
  · exact ⟨[], none, 0, rfl, Nat.le_refl _, by simp, (fun _ => rfl), Rd.nil _ _ _, fun x hx => by cases hx⟩
  · have hrest := (hsp rfl).1
    have hcap : cap * 40 ≤ reachBytes := by
      refine all_mem hw ?_
      simp only [DataW.weights, Try.underlying45, bytes40, List.length_map]
      rw [show elems.length + rest.length = cap by omega]
      exact List.mem_cons_self
    have hr47 : reachBytes ≤ 140737488355328 := by decide
    obtain ⟨l, hl, hf, hc⟩ := gather W a len (fun i hi => by
      have h1 := hel i hi
      rw [cells3] at h1
      have hie : elems[i]? = some elems[i] := List.getElem?_eq_getElem (by omega)
      rw [hie] at h1
      obtain ⟨cs', hcs, htr⟩ := Option.bind_eq_some_iff.1 h1
      obtain ⟨_, hcl, hat⟩ := World.cells?_some hcs
      obtain ⟨y, rfl, hy⟩ := open_version htr
      refine ⟨y, hy, fun r u hr => ?_⟩
      have hr3 : r < 3 := by have := (List.getElem?_eq_some_iff.1 hr).1; simpa [V.cells] using this
      have := hat r hr3
      rw [Go.Deep.add_add] at this
      rw [this, hr])
    subst hl
    refine ⟨l, some a, cap, rfl, hlc, by omega, (fun e => by cases e), fun j u hj => ?_, hf⟩
    have hpos : 0 < (cellsV l).length := by have := (List.getElem?_eq_some_iff.1 hj).1; omega
    have h0 := hc 0 (cellsV l)[0] (List.getElem?_eq_getElem hpos)
    rw [show a.add 0 = a by simp [Addr.add]] at h0
    obtain ⟨b, off, rfl⟩ := plain_of_cell h0
    refine ⟨b, off, rfl, World.block_lt_of_cell? W _ h0, ?_⟩
    have := hc j u hj
    rwa [base.add_plain] at this

set_option maxRecDepth 100000 in
theorem open_ecells {m : Nat} {cs : List Value} {x : DataW H × List MemPlace} (h : DataW.trod enc Try.prog W 0 (fun _ => true) true m 47 cs = some x) (hw : (x.1.weights Try.prog 47).all (· ≤ reachBytes) = true) :
    ∃ (s : ByteArray) (l : List V) (A : Option Addr) (c : Nat), cs = [.string s, .slice A l.length c] ∧ Vs W W.heap.size l A c ∧ s.size ≤ maxLen := by
  obtain ⟨ys, n, hn, hx, hlen, hyl, hf⟩ := DataW.trod_struct Try.underlying47 h
  rw [cells2] at hlen
  match cs, hlen, ys, hyl with
  | [c0, c1], _, [y0, y1], _ =>
    have k9 : Try.prog.cellsOf 9 = 1 := by kernel_rfl
    have k24 : Try.prog.cellsOf 45 = 1 := by kernel_rfl
    have f0 : DataW.trod enc Try.prog W 0 (fun _ => true) true n 9 (List.take (Try.prog.cellsOf 9) (List.drop 0 [c0, c1])) = some y0 := hf 0 _ rfl
    have f1 : DataW.trod enc Try.prog W 0 (fun _ => true) true n 45 (List.take (Try.prog.cellsOf 45) (List.drop 1 [c0, c1])) = some y1 := hf 1 _ rfl
    rw [k9] at f0
    rw [k24] at f1
    obtain ⟨s, e0, _, w0⟩ := DataW.trod_string Try.underlying9 f0
    obtain ⟨l, A, c, e1, hV⟩ := open_vs f1 (by
      rw [List.all_eq_true]
      intro n hn
      have : n ∈ x.1.weights Try.prog 47 := by
        rw [hx]
        simp only [DataW.weights, Try.underlying47, DataW.weightsEach, List.map_cons, List.mem_append]
        exact .inr (.inl hn)
      simpa using all_mem hw this)
    simp at e0 e1
    subst e0 e1
    exact ⟨s, l, A, c, rfl, hV, w0⟩

set_option maxRecDepth 100000 in
/-- a secret that came in -/
theorem open_entry {r : Reach} {b0 : Nat} {v : Value} {d : DataW H} {p : List MemPlace} (hv : Value.okWide Try.prog W r b0 47 v) (h : DataW.Trod enc Try.prog W 0 (fun _ => true) true 47 v d p)
    (hw : (d.weights Try.prog 47).all (· ≤ reachBytes) = true) : ∃ (s : ByteArray) (l : List V) (A : Option Addr) (c : Nat), v = .agg #[.string s, .slice A l.length c] ∧ Vs W W.heap.size l A c ∧ s.size ≤ maxLen := by
  obtain ⟨cs, rfl, hsz⟩ := okWide_struct Try.underlying47 hv
  obtain ⟨m, hm⟩ := h
  obtain ⟨s, l, A, c, hcs, hV, hs⟩ := open_ecells hm hw
  refine ⟨s, l, A, c, ?_, hV, hs⟩
  have : cs.toList = [.string s, .slice A l.length c] := by simpa [Value.cells] using hcs
  rw [← Array.toArray_toList (xs := cs), this]
end
end Go.Proofs.Ytoenkkbcpafanaa.vers
