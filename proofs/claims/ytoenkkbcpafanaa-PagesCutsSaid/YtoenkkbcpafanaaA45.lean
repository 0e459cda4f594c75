/- A list of nodes that came in, opened. -/
import Derived.Test.YtoenkkbcpafanaaA06
import Derived.Test.YtoenkkbcpafanaaA44


namespace Go.Proofs.Ytoenkkbcpafanaa.trees
set_option linter.unusedVariables false
set_option linter.unusedSimpArgs false
open Go.RowKit Go.ChangeShapes Go.WideShapes Go.Proofs.Ytoenkkbcpafanaa.base Go.Proofs.Ytoenkkbcpafanaa.vers Go.Proofs.Ytoenkkbcpafanaa.nodes

theorem bytesN : Try.prog.bytesOf 87 = 56 := by kernel_rfl
/-- the slice (A, l.length, c) holds the nodes l, below block B -/
def Ns (w : World) (B : Nat) (l : List N) (A : Option Addr) (c : Nat) : Prop := l.length ≤ c ∧ l.length * 56 ≤ 140737488355328 ∧ (A = none → c = 0) ∧ Rd w B A (cellsN l) ∧ ∀ x ∈ l, Es w B x.es x.A x.c ∧ Ks w B x.ks x.Q x.m
theorem Ns.below {w w' : World} {B : Nat} {l : List N} {A : Option Addr} {c : Nat} (h : Ns w B l A c) (hb : Below B w w') : Ns w' B l A c := ⟨h.1, h.2.1, h.2.2.1, h.2.2.2.1.below hb, fun x hx => ⟨(h.2.2.2.2 x hx).1.below hb, (h.2.2.2.2 x hx).2.below hb⟩⟩
theorem Ns.at_ {w : World} {B : Nat} {l : List N} {A : Option Addr} {c : Nat} (h : Ns w B l A c) {j : Nat} (hj : j < l.length) : ∃ b off, A = some ⟨b, off, none⟩ ∧ b < B ∧ w.cell? ⟨b, off + j * 3, none⟩ = some (.bool l[j].lf) ∧ w.cell? ⟨b, off + j * 3 + 1, none⟩ = some (.slice l[j].A l[j].es.length l[j].c) ∧ w.cell? ⟨b, off + j * 3 + 2, none⟩ = some (.slice l[j].Q l[j].ks.length l[j].m) := by
  obtain ⟨e0, e1, e2⟩ := cellsN_at l hj
  have hr := h.2.2.2.1
  obtain ⟨b, off, e, hb, c0⟩ := hr _ _ e0
  refine ⟨b, off, e, hb, ?_, ?_, ?_⟩
  · rw [show off + j * 3 = off + 3 * j by omega]; exact c0
  · obtain ⟨b', off', e', _, c1⟩ := hr _ _ e1
    rw [e] at e'; cases e'
    rw [show off + j * 3 + 1 = off + (3 * j + 1) by omega]; exact c1
  · obtain ⟨b', off', e', _, c2⟩ := hr _ _ e2
    rw [e] at e'; cases e'
    rw [show off + j * 3 + 2 = off + (3 * j + 2) by omega]; exact c2
theorem gatherN (W : World) (a : Addr) (len : Nat) (h : ∀ i, i < len → ∃ x : N, (Es W W.heap.size x.es x.A x.c ∧ Ks W W.heap.size x.ks x.Q x.m) ∧ ∀ r u, x.cells[r]? = some u → W.cell? (a.add (i * 3 + r)) = some u) :
    ∃ l : List N, l.length = len ∧ (∀ x ∈ l, Es W W.heap.size x.es x.A x.c ∧ Ks W W.heap.size x.ks x.Q x.m) ∧ ∀ j u, (cellsN l)[j]? = some u → W.cell? (a.add j) = some u := by
  induction len with
  | zero => exact ⟨[], rfl, (fun x hx => by cases hx), fun j u h => by simp [cellsN] at h⟩
  | succ n ih =>
    obtain ⟨l, hl, hf, hc⟩ := ih (fun i hi => h i (by omega))
    obtain ⟨x, hx, hcs⟩ := h n (by omega)
    have hxl := cellsN_len l
    refine ⟨l ++ [x], by simp [hl], fun y hy => ?_, fun j u hj => ?_⟩
    · rcases List.mem_append.1 hy with e | e
      · exact hf y e
      · rw [List.mem_singleton.1 e]; exact hx
    · rw [cellsN_app] at hj
      rcases Nat.lt_or_ge j (cellsN l).length with hlt | hge
      · rw [List.getElem?_append_left hlt] at hj
        exact hc j u hj
      · rw [List.getElem?_append_right hge, show cellsN [x] = x.cells by simp [cellsN]] at hj
        have := hcs (j - (cellsN l).length) u hj
        rwa [show n * 3 + (j - (cellsN l).length) = j by omega] at this

section
variable {H : Type} {enc : TypeId × Value → H} {W : World}
set_option maxRecDepth 100000 in
theorem open_ncells {m : Nat} {cs : List Value} {x : DataW H × List MemPlace} (h : DataW.trod enc Try.prog W 0 (fun _ => true) true m 87 cs = some x) (hw : (x.1.weights Try.prog 87).all (· ≤ reachBytes) = true) :
    ∃ y : N, cs = y.cells ∧ Es W W.heap.size y.es y.A y.c ∧ Ks W W.heap.size y.ks y.Q y.m := by
  obtain ⟨ys, n, hn, hx, hlen, hyl, hf⟩ := DataW.trod_struct Try.underlying87 h
  rw [cells3n] at hlen
  match cs, hlen, ys, hyl with
  | [c0, c1, c2], _, [y0, y1, y2], _ =>
    have k4 : Try.prog.cellsOf 4 = 1 := by kernel_rfl
    have k24 : Try.prog.cellsOf 84 = 1 := by kernel_rfl
    have k25 : Try.prog.cellsOf 85 = 1 := by kernel_rfl
    have f0 : DataW.trod enc Try.prog W 0 (fun _ => true) true n 4 (List.take (Try.prog.cellsOf 4) (List.drop 0 [c0, c1, c2])) = some y0 := hf 0 _ rfl
    have f1 : DataW.trod enc Try.prog W 0 (fun _ => true) true n 84 (List.take (Try.prog.cellsOf 84) (List.drop 1 [c0, c1, c2])) = some y1 := hf 1 _ rfl
    have f2 : DataW.trod enc Try.prog W 0 (fun _ => true) true n 85 (List.take (Try.prog.cellsOf 85) (List.drop 2 [c0, c1, c2])) = some y2 := hf 2 _ rfl
    rw [k4] at f0
    rw [k24] at f1
    rw [k25] at f2
    obtain ⟨lf, e0, _⟩ := DataW.trod_bool Try.underlying4 f0
    have hd : x.1 = DataW.agg (List.map (fun x => x.fst) [y0, y1, y2]) := by rw [hx]
    obtain ⟨es, A, c, e1, hV⟩ := open_es f1 (by
      rw [List.all_eq_true]
      intro n hn
      have : n ∈ x.1.weights Try.prog 87 := by
        rw [hd]
        simp only [DataW.weights, Try.underlying87, DataW.weightsEach, List.map_cons, List.mem_append]
        exact .inr (.inl hn)
      simpa using all_mem hw this)
    obtain ⟨ks, A', c', e2, hK⟩ := open_ks f2 (by
      rw [List.all_eq_true]
      intro n hn
      have : n ∈ x.1.weights Try.prog 87 := by
        rw [hd]
        simp only [DataW.weights, Try.underlying87, DataW.weightsEach, List.map_cons, List.mem_append]
        exact .inr (.inr (.inl hn))
      simpa using all_mem hw this)
    simp at e0 e1 e2
    subst e0 e1 e2
    exact ⟨⟨lf, es, ks, A, c, A', c'⟩, rfl, hV, hK⟩

set_option maxRecDepth 100000 in
/-- a list of nodes that came in -/
theorem open_nodes {r : Reach} {b0 : Nat} {v : Value} {d : DataW H} {p : List MemPlace} (hv : Value.okWide Try.prog W r b0 137 v) (h : DataW.Trod enc Try.prog W 0 (fun _ => true) true 137 v d p)
    (hw : (d.weights Try.prog 137).all (· ≤ reachBytes) = true) : ∃ (l : List N) (A : Option Addr) (c : Nat), v = .slice A l.length c ∧ Ns W W.heap.size l A c := by
  obtain ⟨a, len, cap, rfl⟩ := okWide_slice Try.underlying137 hv
  obtain ⟨m, hm⟩ := h
  have key : ∃ (l : List N) (A : Option Addr) (c : Nat), (Value.slice a len cap).cells.toList = [.slice A l.length c] ∧ Ns W W.heap.size l A c := by
    rcases DataW.trod_slice Try.underlying137 hm with ⟨e, _⟩ | ⟨a, len, cap, elems, rest, n, hn, e, hd, _, hlc, hcm, hlen, hel, hsp, _⟩
    · rw [e]
      exact ⟨[], none, 0, rfl, Nat.le_refl _, by simp, (fun _ => rfl), Rd.nil _ _ _, fun x hx => by cases hx⟩
    · rw [e]
      have hd := congrArg Prod.fst hd
      simp only at hd
      subst hd
      have hrest := (hsp rfl).1
      have hcap : cap * 56 ≤ reachBytes := by
        refine all_mem hw ?_
        simp only [DataW.weights, Try.underlying137, bytesN, List.length_map]
        rw [show elems.length + rest.length = cap by omega]
        exact List.mem_cons_self
      have hr47 : reachBytes ≤ 140737488355328 := by decide
      obtain ⟨l, hl, hf, hc⟩ := gatherN W a len (fun i hi => by
        have h1 := hel i hi
        rw [cells3n] at h1
        have hie : elems[i]? = some elems[i] := List.getElem?_eq_getElem (by omega)
        rw [hie] at h1
        obtain ⟨cs', hcs, htr⟩ := Option.bind_eq_some_iff.1 h1
        obtain ⟨_, hcl, hat⟩ := World.cells?_some hcs
        obtain ⟨y, rfl, hy⟩ := open_ncells htr (by
          rw [List.all_eq_true]
          intro n hn
          have : n ∈ DataW.weights Try.prog 137 (DataW.slice (elems.map (·.1)) (rest.map (·.1))) := by
            simp only [DataW.weights, Try.underlying137, List.mem_cons, List.mem_append]
            exact .inr (.inl (weightsAll_mem (List.mem_map_of_mem (List.getElem_mem (by omega))) n hn))
          simpa using all_mem hw this)
        refine ⟨y, hy, fun r u hr => ?_⟩
        have hr2 : r < 3 := by have := (List.getElem?_eq_some_iff.1 hr).1; simpa [N.cells] using this
        have := hat r hr2
        rw [Go.Deep.add_add] at this
        rw [this]
        exact hr)
      subst hl
      exact ⟨l, some a, cap, rfl, hlc, by omega, (fun e => by cases e), rd_of hc, hf⟩
  obtain ⟨l, A, c, hcs, hN⟩ := key
  simp [Value.cells] at hcs
  obtain ⟨rfl, rfl, rfl⟩ := hcs
  exact ⟨l, a, cap, rfl, hN⟩
end
end Go.Proofs.Ytoenkkbcpafanaa.trees
