/- Arguments opened: a node, a reference. -/
import Derived.Test.YtoenkkbcpafanaaVerO
import Derived.Test.YtoenkkbcpafanaaNdA


namespace Go.Proofs.Ytoenkkbcpafanaa.nodes
set_option linter.unusedVariables false
set_option linter.unusedSimpArgs false
open Go.RowKit Go.ChangeShapes Go.WideShapes Go.Proofs.Ytoenkkbcpafanaa.base Go.Proofs.Ytoenkkbcpafanaa.vers

theorem cells5 : Try.prog.cellsOf 162 = 5 := by kernel_rfl
theorem cells4r : Try.prog.cellsOf 27 = 4 := by kernel_rfl
theorem cells3n : Try.prog.cellsOf 87 = 3 := by kernel_rfl
theorem bytesE : Try.prog.bytesOf 47 = 40 := by kernel_rfl
theorem bytesK : Try.prog.bytesOf 162 = 48 := by kernel_rfl

theorem weightsAll_mem {H : Type} {P : Program} {e : TypeId} : ∀ {ds : List (DataW H)} {d : DataW H}, d ∈ ds → ∀ n ∈ d.weights P e, n ∈ DataW.weightsAll P e ds
  | d0 :: ds, d, hd, n, hn => by
    simp only [DataW.weightsAll, List.mem_append]
    rcases List.mem_cons.1 hd with rfl | h
    · exact .inl hn
    · exact .inr (weightsAll_mem h n hn)
/-- a list out of its elements -/
theorem gatherE (W : World) (a : Addr) (len : Nat) (h : ∀ i, i < len → ∃ x : E, (Vs W W.heap.size x.l x.A x.c ∧ x.s.size ≤ maxLen) ∧ ∀ r u, x.cells[r]? = some u → W.cell? (a.add (i * 2 + r)) = some u) :
    ∃ l : List E, l.length = len ∧ (∀ x ∈ l, Vs W W.heap.size x.l x.A x.c ∧ x.s.size ≤ maxLen) ∧ ∀ j u, (cellsE l)[j]? = some u → W.cell? (a.add j) = some u := by
  induction len with
  | zero => exact ⟨[], rfl, (fun x hx => by cases hx), fun j u h => by simp [cellsE] at h⟩
  | succ n ih =>
    obtain ⟨l, hl, hf, hc⟩ := ih (fun i hi => h i (by omega))
    obtain ⟨x, hx, hcs⟩ := h n (by omega)
    have hxl := cellsE_len l
    refine ⟨l ++ [x], by simp [hl], fun y hy => ?_, fun j u hj => ?_⟩
    · rcases List.mem_append.1 hy with e | e
      · exact hf y e
      · rw [List.mem_singleton.1 e]; exact hx
    · rw [cellsE_app] at hj
      rcases Nat.lt_or_ge j (cellsE l).length with hlt | hge
      · rw [List.getElem?_append_left hlt] at hj
        exact hc j u hj
      · rw [List.getElem?_append_right hge, show cellsE [x] = x.cells by simp [cellsE]] at hj
        have := hcs (j - (cellsE l).length) u hj
        rwa [show n * 2 + (j - (cellsE l).length) = j by omega] at this
theorem gatherK (W : World) (a : Addr) (len : Nat) (h : ∀ i, i < len → ∃ x : K, x.fits ∧ ∀ r u, x.cells[r]? = some u → W.cell? (a.add (i * 5 + r)) = some u) :
    ∃ l : List K, l.length = len ∧ (∀ x ∈ l, x.fits) ∧ ∀ j u, (cellsK l)[j]? = some u → W.cell? (a.add j) = some u := by
  induction len with
  | zero => exact ⟨[], rfl, (fun x hx => by cases hx), fun j u h => by simp [cellsK] at h⟩
  | succ n ih =>
    obtain ⟨l, hl, hf, hc⟩ := ih (fun i hi => h i (by omega))
    obtain ⟨x, hx, hcs⟩ := h n (by omega)
    have hxl := cellsK_len l
    refine ⟨l ++ [x], by simp [hl], fun y hy => ?_, fun j u hj => ?_⟩
    · rcases List.mem_append.1 hy with e | e
      · exact hf y e
      · rw [List.mem_singleton.1 e]; exact hx
    · rw [cellsK_app] at hj
      rcases Nat.lt_or_ge j (cellsK l).length with hlt | hge
      · rw [List.getElem?_append_left hlt] at hj
        exact hc j u hj
      · rw [List.getElem?_append_right hge, show cellsK [x] = x.cells by simp [cellsK]] at hj
        have := hcs (j - (cellsK l).length) u hj
        rwa [show n * 5 + (j - (cellsK l).length) = j by omega] at this

section
variable {H : Type} {enc : TypeId × Value → H} {W : World}

set_option maxRecDepth 100000 in
theorem open_rcells {m : Nat} {cs : List Value} {x : DataW H × List MemPlace} (h : DataW.trod enc Try.prog W 0 (fun _ => true) true m 27 cs = some x) : ∃ (k : Nat) (g o n : Int), cs = [.int .u64 (k : Int), .int .i64 g, .int .i64 o, .int .i64 n] ∧ k < 18446744073709551616 ∧ i64 g ∧ i64 o ∧ i64 n := by
  obtain ⟨ys, n, hn, hx, hlen, hyl, hf⟩ := DataW.trod_struct Try.underlying27 h
  rw [cells4r] at hlen
  match cs, hlen, ys, hyl with
  | [c0, c1, c2, c3], _, [y0, y1, y2, y3], _ =>
    have k3 : Try.prog.cellsOf 3 = 1 := by kernel_rfl
    have k22 : Try.prog.cellsOf 25 = 1 := by kernel_rfl
    have f0 : DataW.trod enc Try.prog W 0 (fun _ => true) true n 25 (List.take (Try.prog.cellsOf 25) (List.drop 0 [c0, c1, c2, c3])) = some y0 := hf 0 _ rfl
    have f1 : DataW.trod enc Try.prog W 0 (fun _ => true) true n 3 (List.take (Try.prog.cellsOf 3) (List.drop 1 [c0, c1, c2, c3])) = some y1 := hf 1 _ rfl
    have f2 : DataW.trod enc Try.prog W 0 (fun _ => true) true n 3 (List.take (Try.prog.cellsOf 3) (List.drop 2 [c0, c1, c2, c3])) = some y2 := hf 2 _ rfl
    have f3 : DataW.trod enc Try.prog W 0 (fun _ => true) true n 3 (List.take (Try.prog.cellsOf 3) (List.drop 3 [c0, c1, c2, c3])) = some y3 := hf 3 _ rfl
    rw [k22] at f0
    rw [k3] at f1 f2 f3
    obtain ⟨k, e0, _, w0⟩ := DataW.trod_int Try.underlying25 f0
    obtain ⟨g, e1, _, w1⟩ := DataW.trod_int Try.underlying3 f1
    obtain ⟨o, e2, _, w2⟩ := DataW.trod_int Try.underlying3 f2
    obtain ⟨q, e3, _, w3⟩ := DataW.trod_int Try.underlying3 f3
    simp at e0 e1 e2 e3
    subst e0 e1 e2 e3
    simp [Lit.wf, IntKind.has] at w0 w1 w2 w3
    have h1 : IntKind.i64.min = -9223372036854775808 := rfl
    have h2 : IntKind.i64.max = 9223372036854775807 := rfl
    have h3 : IntKind.u64.min = 0 := rfl
    have h4 : IntKind.u64.max = 18446744073709551615 := rfl
    obtain ⟨k', rfl⟩ := Int.eq_ofNat_of_zero_le (show 0 ≤ k by omega)
    exact ⟨k', g, o, q, rfl, by omega, by unfold i64; omega, by unfold i64; omega, by unfold i64; omega⟩

set_option maxRecDepth 100000 in
theorem open_kcells {m : Nat} {cs : List Value} {x : DataW H × List MemPlace} (h : DataW.trod enc Try.prog W 0 (fun _ => true) true m 162 cs = some x) : ∃ y : K, cs = y.cells ∧ y.fits := by
  obtain ⟨ys, n, hn, hx, hlen, hyl, hf⟩ := DataW.trod_struct Try.underlying162 h
  rw [cells5] at hlen
  match cs, hlen, ys, hyl with
  | [c0, c1, c2, c3, c4], _, [y0, y1], _ =>
    have k9 : Try.prog.cellsOf 9 = 1 := by kernel_rfl
    have f0 : DataW.trod enc Try.prog W 0 (fun _ => true) true n 9 (List.take (Try.prog.cellsOf 9) (List.drop 0 [c0, c1, c2, c3, c4])) = some y0 := hf 0 _ rfl
    have f1 : DataW.trod enc Try.prog W 0 (fun _ => true) true n 27 (List.take (Try.prog.cellsOf 27) (List.drop 1 [c0, c1, c2, c3, c4])) = some y1 := hf 1 _ rfl
    rw [k9] at f0
    rw [cells4r] at f1
    obtain ⟨s, e0, _, w0⟩ := DataW.trod_string Try.underlying9 f0
    obtain ⟨k, g, o, q, e1, hk, hg, ho, hq⟩ := open_rcells f1
    simp at e0 e1
    obtain ⟨r1, r2, r3, r4⟩ := e1
    subst e0 r1 r2 r3 r4
    exact ⟨⟨s, k, g, o, q⟩, rfl, w0, hk, hg, ho, hq⟩

theorem rd_of {W : World} {a : Addr} {xs : List Value} (h : ∀ j u, xs[j]? = some u → W.cell? (a.add j) = some u) : Rd W W.heap.size (some a) xs := fun j u hj => by
  have hpos : 0 < xs.length := by have := (List.getElem?_eq_some_iff.1 hj).1; omega
  have h0 := h 0 xs[0] (List.getElem?_eq_getElem hpos)
  rw [show a.add 0 = a by simp [Addr.add]] at h0
  obtain ⟨b, off, rfl⟩ := plain_of_cell h0
  refine ⟨b, off, rfl, World.block_lt_of_cell? W _ h0, ?_⟩
  have := h j u hj
  rwa [base.add_plain] at this

set_option maxRecDepth 100000 in
theorem open_ks {m : Nat} {cs : List Value} {x : DataW H × List MemPlace} (h : DataW.trod enc Try.prog W 0 (fun _ => true) true m 85 cs = some x) (hw : (x.1.weights Try.prog 85).all (· ≤ reachBytes) = true) :
    ∃ (l : List K) (A : Option Addr) (c : Nat), cs = [.slice A l.length c] ∧ Ks W W.heap.size l A c := by
  rcases DataW.trod_slice Try.underlying85 h with ⟨rfl, _⟩ | ⟨a, len, cap, elems, rest, n, hn, rfl, rfl, _, hlc, hcm, hlen, hel, hsp, _⟩
  · exact ⟨[], none, 0, rfl, Nat.le_refl _, by simp, (fun _ => rfl), Rd.nil _ _ _, fun x hx => by cases hx⟩
  · have hrest := (hsp rfl).1
    have hcap : cap * 48 ≤ reachBytes := by
      refine all_mem hw ?_
      simp only [DataW.weights, Try.underlying85, bytesK, List.length_map]
      rw [show elems.length + rest.length = cap by omega]
      exact List.mem_cons_self
    have hr47 : reachBytes ≤ 140737488355328 := by decide
    obtain ⟨l, hl, hf, hc⟩ := gatherK W a len (fun i hi => by
      have h1 := hel i hi
      rw [cells5] at h1
      have hie : elems[i]? = some elems[i] := List.getElem?_eq_getElem (by omega)
      rw [hie] at h1
      obtain ⟨cs', hcs, htr⟩ := Option.bind_eq_some_iff.1 h1
      obtain ⟨_, hcl, hat⟩ := World.cells?_some hcs
      obtain ⟨y, rfl, hy⟩ := open_kcells htr
      refine ⟨y, hy, fun r u hr => ?_⟩
      have hr3 : r < 5 := by have := (List.getElem?_eq_some_iff.1 hr).1; simpa [K.cells] using this
      have := hat r hr3
      rw [Go.Deep.add_add] at this
      rw [this, hr])
    subst hl
    exact ⟨l, some a, cap, rfl, hlc, by omega, (fun e => by cases e), rd_of hc, hf⟩

set_option maxRecDepth 100000 in
theorem open_es {m : Nat} {cs : List Value} {x : DataW H × List MemPlace} (h : DataW.trod enc Try.prog W 0 (fun _ => true) true m 84 cs = some x) (hw : (x.1.weights Try.prog 84).all (· ≤ reachBytes) = true) :
    ∃ (l : List E) (A : Option Addr) (c : Nat), cs = [.slice A l.length c] ∧ Es W W.heap.size l A c := by
  rcases DataW.trod_slice Try.underlying84 h with ⟨rfl, _⟩ | ⟨a, len, cap, elems, rest, n, hn, rfl, rfl, _, hlc, hcm, hlen, hel, hsp, _⟩
  · exact ⟨[], none, 0, rfl, Nat.le_refl _, by simp, (fun _ => rfl), Rd.nil _ _ _, fun x hx => by cases hx⟩
  · have hrest := (hsp rfl).1
    have hcap : cap * 40 ≤ reachBytes := by
      refine all_mem hw ?_
      simp only [DataW.weights, Try.underlying84, bytesE, List.length_map]
      rw [show elems.length + rest.length = cap by omega]
      exact List.mem_cons_self
    have hr47 : reachBytes ≤ 140737488355328 := by decide
    obtain ⟨l, hl, hf, hc⟩ := gatherE W a len (fun i hi => by
      have h1 := hel i hi
      rw [cells2] at h1
      have hie : elems[i]? = some elems[i] := List.getElem?_eq_getElem (by omega)
      rw [hie] at h1
      obtain ⟨cs', hcs, htr⟩ := Option.bind_eq_some_iff.1 h1
      obtain ⟨_, hcl, hat⟩ := World.cells?_some hcs
      obtain ⟨s, l, A, c, rfl, hV, hs⟩ := open_ecells htr (by
        rw [List.all_eq_true]
        intro n hn
        have : n ∈ DataW.weights Try.prog 84 (DataW.slice (elems.map (·.1)) (rest.map (·.1))) := by
          simp only [DataW.weights, Try.underlying84, List.mem_cons, List.mem_append]
          exact .inr (.inl (weightsAll_mem (List.mem_map_of_mem (List.getElem_mem (by omega))) n hn))
        simpa using all_mem hw this)
      refine ⟨⟨s, l, A, c⟩, ⟨hV, hs⟩, fun r u hr => ?_⟩
      have hr2 : r < 2 := by have := (List.getElem?_eq_some_iff.1 hr).1; simpa [E.cells] using this
      have := hat r hr2
      rw [Go.Deep.add_add] at this
      rw [this]
      exact hr)
    subst hl
    exact ⟨l, some a, cap, rfl, hlc, by omega, (fun e => by cases e), rd_of hc, hf⟩

set_option maxRecDepth 100000 in
/-- a node that came in -/
theorem open_node {r : Reach} {b0 : Nat} {v : Value} {d : DataW H} {p : List MemPlace} (hv : Value.okWide Try.prog W r b0 87 v) (h : DataW.Trod enc Try.prog W 0 (fun _ => true) true 87 v d p)
    (hw : (d.weights Try.prog 87).all (· ≤ reachBytes) = true) : ∃ (lf : Bool) (es : List E) (A : Option Addr) (c : Nat) (ks : List K) (A' : Option Addr) (c' : Nat), v = .agg #[.bool lf, .slice A es.length c, .slice A' ks.length c'] ∧ Es W W.heap.size es A c ∧ Ks W W.heap.size ks A' c' := by
  obtain ⟨cs, rfl, hsz⟩ := okWide_struct Try.underlying87 hv
  obtain ⟨m, hm⟩ := h
  obtain ⟨ys, n, hn, hx, hlen, hyl, hf⟩ := DataW.trod_struct Try.underlying87 hm
  rw [cells3n] at hlen
  generalize hcl : (Value.agg cs).cells.toList = cl at hlen hf
  match cl, hlen, ys, hyl with
  | [c0, c1, c2], _, [y0, y1, y2], _ =>
    have k4 : Try.prog.cellsOf 4 = 1 := by kernel_rfl
    have k24 : Try.prog.cellsOf 84 = 1 := by kernel_rfl
    have k25 : Try.prog.cellsOf 85 = 1 := by kernel_rfl
    have f0 : DataW.trod enc Try.prog W 0 (fun _ => true) true n 4 (List.take (Try.prog.cellsOf 4) (List.drop 0 [c0, c1, c2])) = some y0 := hf 0 _ rfl
    have f1 : DataW.trod enc Try.prog W 0 (fun _ => true) true n 84 (List.take (Try.prog.cellsOf 84) (List.drop 1 [c0, c1, c2])) = some y1 := hf 1 _ rfl
    have f2 : DataW.trod enc Try.prog W 0 (fun _ => true) true n 85 (List.take (Try.prog.cellsOf 85) (List.drop 2 [c0, c1, c2])) = some y2 := hf 2 _ rfl
    rw [k4] at f0
    rw [k24] at f1
    rw [k25] at f2
    obtain ⟨lf, e0, _⟩ := DataW.trod_bool Try.underlying4 f0
    obtain ⟨es, A, c, e1, hV⟩ := open_es f1 (by
      rw [List.all_eq_true]
      intro n hn
      have : n ∈ d.weights Try.prog 87 := by
        rw [show d = DataW.agg (List.map (fun x => x.fst) [y0, y1, y2]) from congrArg Prod.fst hx]
        simp only [DataW.weights, Try.underlying87, DataW.weightsEach, List.map_cons, List.mem_append]
        exact .inr (.inl hn)
      simpa using all_mem hw this)
    obtain ⟨ks, A', c', e2, hK⟩ := open_ks f2 (by
      rw [List.all_eq_true]
      intro n hn
      have : n ∈ d.weights Try.prog 87 := by
        rw [show d = DataW.agg (List.map (fun x => x.fst) [y0, y1, y2]) from congrArg Prod.fst hx]
        simp only [DataW.weights, Try.underlying87, DataW.weightsEach, List.map_cons, List.mem_append]
        exact .inr (.inr (.inl hn))
      simpa using all_mem hw this)
    simp at e0 e1 e2
    subst e0 e1 e2
    refine ⟨lf, es, A, c, ks, A', c', ?_, hV, hK⟩
    have : cs.toList = [.bool lf, .slice A es.length c, .slice A' ks.length c'] := by simpa [Value.cells] using hcl
    rw [← Array.toArray_toList (xs := cs), this]

set_option maxRecDepth 100000 in
/-- a reference that came in -/
theorem open_ref {r : Reach} {b0 : Nat} {v : Value} {d : DataW H} {p : List MemPlace} (hv : Value.okWide Try.prog W r b0 27 v) (h : DataW.Trod enc Try.prog W 0 (fun _ => true) true 27 v d p) :
    ∃ (k : Nat) (g o n : Int), v = .agg #[.int .u64 (k : Int), .int .i64 g, .int .i64 o, .int .i64 n] ∧ k < 18446744073709551616 ∧ i64 g ∧ i64 o ∧ i64 n := by
  obtain ⟨cs, rfl, hsz⟩ := okWide_struct Try.underlying27 hv
  obtain ⟨m, hm⟩ := h
  obtain ⟨k, g, o, n, hcs, hf⟩ := open_rcells hm
  refine ⟨k, g, o, n, ?_, hf⟩
  have : cs.toList = [.int .u64 (k : Int), .int .i64 g, .int .i64 o, .int .i64 n] := by simpa [Value.cells] using hcs
  rw [← Array.toArray_toList (xs := cs), this]
end
end Go.Proofs.Ytoenkkbcpafanaa.nodes
