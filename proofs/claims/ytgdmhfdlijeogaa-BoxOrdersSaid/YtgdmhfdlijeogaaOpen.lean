/- An argument that is a term, or a list of terms, opened: it lies in memory as a term. -/
import Derived.Test.YtgdmhfdlijeogaaLies
import Derived.Lib.SmallJoins
import Derived.SizedLaws
import Derived.ProofKit
import Derived.OpenShut
namespace Go.Proofs.Ytgdmhfdlijeogaa.opens
set_option linter.unusedVariables false
set_option linter.unusedSimpArgs false
open Go.RowKit Go.ChangeShapes Go.WideShapes Go.Proofs.Ytgdmhfdlijeogaa.base Go.Proofs.Ytgdmhfdlijeogaa.tm Go.Proofs.Ytgdmhfdlijeogaa.lies

theorem bytes56 : Try.prog.bytesOf 25 = 56 := by kernel_rfl
theorem cells4 : Try.prog.cellsOf 25 = 4 := by kernel_rfl

/-- a list out of its elements -/
theorem gather (W : World) (a : Addr) (len : Nat) (h : ∀ i, i < len → ∃ t v, Lies W W.heap.size t v ∧ ∀ r u, (T.cells t v)[r]? = some u → W.cell? (a.add (i * 4 + r)) = some u) :
    ∃ (l : List T) (xs : List Value), l.length = len ∧ LiesL W W.heap.size l xs ∧ ∀ j u, xs[j]? = some u → W.cell? (a.add j) = some u := by
  induction len with
  | zero => exact ⟨[], [], rfl, rfl, fun j u h => by simp at h⟩
  | succ n ih =>
    obtain ⟨l, xs, hl, hL, hc⟩ := ih (fun i hi => h i (by omega))
    obtain ⟨t, v, hv, hcs⟩ := h n (by omega)
    have hxl := hL.len
    refine ⟨l ++ [t], xs ++ T.cells t v, by simp [hl], hL.snoc hv, fun j u hj => ?_⟩
    rcases Nat.lt_or_ge j xs.length with hlt | hge
    · rw [List.getElem?_append_left hlt] at hj
      exact hc j u hj
    · rw [List.getElem?_append_right hge] at hj
      have := hcs (j - xs.length) u hj
      rwa [show n * 4 + (j - xs.length) = j by omega] at this

theorem rd_of {W : World} {a : Addr} {xs : List Value} (h : ∀ j u, xs[j]? = some u → W.cell? (a.add j) = some u) : Rd W W.heap.size (some a) xs := fun j u hj => by
  have hpos : 0 < xs.length := by have := (List.getElem?_eq_some_iff.1 hj).1; omega
  have h0 := h 0 xs[0] (List.getElem?_eq_getElem hpos)
  rw [show a.add 0 = a by simp [Addr.add]] at h0
  obtain ⟨b, off, rfl⟩ := plain_of_cell h0
  refine ⟨b, off, rfl, World.block_lt_of_cell? W _ h0, ?_⟩
  have := h j u hj
  rwa [base.add_plain] at this

theorem all_mem {l : List Nat} (h : l.all (· ≤ reachBytes) = true) {n : Nat} (hn : n ∈ l) : n ≤ reachBytes := by
  simpa using List.all_eq_true.1 h n hn
theorem weightsAll_mem {H : Type} {P : Program} {e : TypeId} : ∀ {ds : List (DataW H)} {d : DataW H}, d ∈ ds → ∀ n ∈ d.weights P e, n ∈ DataW.weightsAll P e ds
  | d0 :: ds, d, hd, n, hn => by
    simp only [DataW.weightsAll, List.mem_append]
    rcases List.mem_cons.1 hd with rfl | h
    · exact .inl hn
    · exact .inr (weightsAll_mem h n hn)

section
variable {H : Type} {enc : TypeId × Value → H} {W : World}

set_option maxRecDepth 100000 in
theorem open_both (m : Nat) :
    (∀ (cs : List Value) (x : DataW H × List MemPlace), DataW.trod enc Try.prog W 0 (fun _ => true) true m 25 cs = some x → (x.1.weights Try.prog 25).all (· ≤ reachBytes) = true → ∃ t v, cs = T.cells t v ∧ Lies W W.heap.size t v) ∧
    (∀ (cs : List Value) (x : DataW H × List MemPlace), DataW.trod enc Try.prog W 0 (fun _ => true) true m 23 cs = some x → (x.1.weights Try.prog 23).all (· ≤ reachBytes) = true →
      ∃ (l : List T) (A : Option Addr) (c : Nat) (xs : List Value), cs = [.slice A l.length c] ∧ l.length ≤ c ∧ l.length * 56 ≤ 140737488355328 ∧ Rd W W.heap.size A xs ∧ LiesL W W.heap.size l xs) := by
  induction m with
  | zero => exact ⟨fun cs x h => by simp [DataW.trod] at h, fun cs x h => by simp [DataW.trod] at h⟩
  | succ m ih =>
    constructor
    · intro cs x h hw
      obtain ⟨ys, n, hn, hx, hlen, hyl, hf⟩ := DataW.trod_struct Try.underlying25 h
      obtain rfl : n = m := by omega
      rw [cells4] at hlen
      match cs, hlen, ys, hyl with
      | [c0, c1, c2, c3], _, [y0, y1, y2, y3], _ =>
        have k3 : Try.prog.cellsOf 3 = 1 := by kernel_rfl
        have k22 : Try.prog.cellsOf 22 = 1 := by kernel_rfl
        have k9 : Try.prog.cellsOf 9 = 1 := by kernel_rfl
        have k28 : Try.prog.cellsOf 23 = 1 := by kernel_rfl
        have f0 : DataW.trod enc Try.prog W 0 (fun _ => true) true n 3 (List.take (Try.prog.cellsOf 3) (List.drop 0 [c0, c1, c2, c3])) = some y0 := hf 0 _ rfl
        have f1 : DataW.trod enc Try.prog W 0 (fun _ => true) true n 22 (List.take (Try.prog.cellsOf 22) (List.drop 1 [c0, c1, c2, c3])) = some y1 := hf 1 _ rfl
        have f2 : DataW.trod enc Try.prog W 0 (fun _ => true) true n 9 (List.take (Try.prog.cellsOf 9) (List.drop 2 [c0, c1, c2, c3])) = some y2 := hf 2 _ rfl
        have f3 : DataW.trod enc Try.prog W 0 (fun _ => true) true n 23 (List.take (Try.prog.cellsOf 23) (List.drop 3 [c0, c1, c2, c3])) = some y3 := hf 3 _ rfl
        rw [k3] at f0
        rw [k22] at f1
        rw [k9] at f2
        rw [k28] at f3
        obtain ⟨k, e0, _, w0⟩ := DataW.trod_int Try.underlying3 f0
        obtain ⟨q, e1, _, w1⟩ := DataW.trod_int Try.underlying22 f1
        obtain ⟨s, e2, _, w2⟩ := DataW.trod_string Try.underlying9 f2
        obtain ⟨l, A, c, xs, e3, g1, g2, g3, g4⟩ := ih.2 _ _ f3 (by
          rw [List.all_eq_true]
          intro n hn
          have : n ∈ x.1.weights Try.prog 25 := by
            rw [hx]
            simp only [DataW.weights, Try.underlying25, DataW.weightsEach, List.map_cons, List.mem_append]
            exact .inr (.inr (.inr (.inl hn)))
          simpa using all_mem hw this)
        simp at e0 e1 e2 e3
        subst e0 e1 e2 e3
        simp [Lit.wf, IntKind.has] at w0 w1
        refine ⟨.mk k q s l, _, rfl, A, c, xs, rfl, ?_, ?_, w2, g1, g2, g3, g4⟩
        · have h1 : IntKind.i64.min = -9223372036854775808 := rfl
          have h2 : IntKind.i64.max = 9223372036854775807 := rfl
          omega
        · have h1 : IntKind.u64.min = 0 := rfl
          have h2 : IntKind.u64.max = 18446744073709551615 := rfl
          omega
    · intro cs x h hw
      rcases DataW.trod_slice Try.underlying23 h with ⟨rfl, _⟩ | ⟨a, len, cap, elems, rest, n, hn, rfl, rfl, _, hlc, hcm, hlen, hel, hsp, _⟩
      · exact ⟨[], none, 0, [], rfl, Nat.le_refl _, by simp, Rd.nil _ _ _, rfl⟩
      · obtain rfl : n = m := by omega
        have hrest := (hsp rfl).1
        have hcap : cap * 56 ≤ reachBytes := by
          refine all_mem hw ?_
          simp only [DataW.weights, Try.underlying23, bytes56, List.length_map]
          rw [show elems.length + rest.length = cap by omega]
          exact List.mem_cons_self
        have hr47 : reachBytes ≤ 140737488355328 := by decide
        obtain ⟨l, xs, hl, hL, hc⟩ := gather W a len (fun i hi => by
          have h1 := hel i hi
          rw [cells4] at h1
          have hie : elems[i]? = some elems[i] := List.getElem?_eq_getElem (by omega)
          rw [hie] at h1
          obtain ⟨cs', hcs, htr⟩ := Option.bind_eq_some_iff.1 h1
          obtain ⟨_, hcl, hat⟩ := World.cells?_some hcs
          obtain ⟨t, v, rfl, hv⟩ := ih.1 _ _ htr (by
            rw [List.all_eq_true]
            intro n hn
            have : n ∈ DataW.weights Try.prog 23 (DataW.slice (elems.map (·.1)) (rest.map (·.1))) := by
              simp only [DataW.weights, Try.underlying23, List.mem_cons, List.mem_append]
              exact .inr (.inl (weightsAll_mem (List.mem_map_of_mem (List.getElem_mem (by omega))) n hn))
            simpa using all_mem hw this)
          refine ⟨t, v, hv, fun r u hr => ?_⟩
          have hr4 : r < 4 := by have := (List.getElem?_eq_some_iff.1 hr).1; simpa [T.cells] using this
          have := hat r hr4
          rw [Go.Deep.add_add] at this
          rw [this, hr])
        subst hl
        exact ⟨l, some a, cap, xs, rfl, hlc, by omega, rd_of hc, hL⟩

set_option maxRecDepth 100000 in
/-- a term that came in -/
theorem open_term {r : Reach} {b0 : Nat} {v : Value} {d : DataW H} {p : List MemPlace} (hv : Value.okWide Try.prog W r b0 25 v) (h : DataW.Trod enc Try.prog W 0 (fun _ => true) true 25 v d p)
    (hw : (d.weights Try.prog 25).all (· ≤ reachBytes) = true) : ∃ t u, v = T.val t u ∧ Lies W W.heap.size t u := by
  obtain ⟨cs, rfl, hsz⟩ := okWide_struct Try.underlying25 hv
  obtain ⟨m, hm⟩ := h
  obtain ⟨t, u, hcs, hL⟩ := (open_both (enc := enc) (W := W) m).1 _ _ hm hw
  refine ⟨t, u, ?_, hL⟩
  have : cs.toList = T.cells t u := by simpa [Value.cells] using hcs
  rw [← Array.toArray_toList (xs := cs), this]
  rfl
set_option maxRecDepth 100000 in
/-- a list of terms that came in -/
theorem open_terms {r : Reach} {b0 : Nat} {v : Value} {d : DataW H} {p : List MemPlace} (hv : Value.okWide Try.prog W r b0 23 v) (h : DataW.Trod enc Try.prog W 0 (fun _ => true) true 23 v d p)
    (hw : (d.weights Try.prog 23).all (· ≤ reachBytes) = true) : ∃ (l : List T) (A : Option Addr) (c : Nat) (xs : List Value), v = .slice A l.length c ∧ l.length ≤ c ∧ l.length * 56 ≤ 140737488355328 ∧ Rd W W.heap.size A xs ∧ LiesL W W.heap.size l xs := by
  obtain ⟨a, len, cap, rfl⟩ := okWide_slice Try.underlying23 hv
  obtain ⟨m, hm⟩ := h
  obtain ⟨l, A, c, xs, hcs, h1, h2, h3, h4⟩ := (open_both (enc := enc) (W := W) m).2 _ _ hm hw
  simp [Value.cells] at hcs
  obtain ⟨rfl, rfl, rfl⟩ := hcs
  exact ⟨l, a, cap, xs, rfl, h1, h2, h3, h4⟩
end
end Go.Proofs.Ytgdmhfdlijeogaa.opens
