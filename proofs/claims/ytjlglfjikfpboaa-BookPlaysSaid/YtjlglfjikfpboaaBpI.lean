/- Steps as an argument; short. -/
import Derived.Test.YtjlglfjikfpboaaBpH
import Derived.Test.YtjlglfjikfpboaaBkOpen


namespace Go.Proofs.Ytjlglfjikfpboaa.books
set_option linter.unusedVariables false
set_option linter.unusedSimpArgs false
open Go.RowKit Go.Shelf Go.ChangeShapes Go.WideShapes Go.Proofs.Ytjlglfjikfpboaa.base Go.Proofs.Ytjlglfjikfpboaa.quotas Go.Proofs.Ytjlglfjikfpboaa.vers Go.Proofs.Ytjlglfjikfpboaa.nodes Go.Proofs.Ytjlglfjikfpboaa.trees Go.Proofs.Ytjlglfjikfpboaa.texts

structure SP where
  k : Int
  l : List O
  A : Option Addr
  c : Nat
  s : ByteArray
  ps : List ByteArray
  D : Option Addr
  d : Nat
def SP.cells (x : SP) : List Value := [.int .i64 x.k, .slice x.A x.l.length x.c, .string x.s, .slice x.D x.ps.length x.d]
def SPok (w : World) (B : Nat) (x : SP) : Prop := Os w B x.l x.A x.c ∧ Ts w B x.ps x.D x.d ∧ x.s.size ≤ maxLen
def cellsS : List SP → List Value
  | [] => []
  | x :: l => x.cells ++ cellsS l
theorem cellsS_len : ∀ l : List SP, (cellsS l).length = l.length * 4
  | [] => rfl
  | x :: l => by rw [cellsS, List.length_append, cellsS_len l]; simp [SP.cells]; omega
theorem cellsS_app : ∀ l m : List SP, cellsS (l ++ m) = cellsS l ++ cellsS m
  | [], m => rfl
  | x :: l, m => by rw [List.cons_append, cellsS, cellsS_app l m, cellsS, List.append_assoc]
theorem cellsS_at : ∀ (l : List SP) {j : Nat} (hj : j < l.length), (cellsS l)[j * 4]? = some (.int .i64 l[j].k) ∧ (cellsS l)[j * 4 + 1]? = some (.slice l[j].A l[j].l.length l[j].c) ∧ (cellsS l)[j * 4 + 2]? = some (.string l[j].s) ∧ (cellsS l)[j * 4 + 3]? = some (.slice l[j].D l[j].ps.length l[j].d)
  | x :: l, 0, _ => ⟨rfl, rfl, rfl, rfl⟩
  | x :: l, j + 1, hj => by
    have ih := cellsS_at l (j := j) (by simpa using hj)
    have h3 : x.cells.length = 4 := rfl
    simp only [cellsS, List.getElem_cons_succ]
    refine ⟨?_, ?_, ?_, ?_⟩
    · rw [List.getElem?_append_right (by omega), h3, show (j + 1) * 4 - 4 = j * 4 by omega]; exact ih.1
    · rw [List.getElem?_append_right (by omega), h3, show (j + 1) * 4 + 1 - 4 = j * 4 + 1 by omega]; exact ih.2.1
    · rw [List.getElem?_append_right (by omega), h3, show (j + 1) * 4 + 2 - 4 = j * 4 + 2 by omega]; exact ih.2.2.1
    · rw [List.getElem?_append_right (by omega), h3, show (j + 1) * 4 + 3 - 4 = j * 4 + 3 by omega]; exact ih.2.2.2
/-- the slice (A, l.length, c) holds the steps l, below block B -/
def Ss (w : World) (B : Nat) (l : List SP) (A : Option Addr) (c : Nat) : Prop := l.length ≤ c ∧ l.length * 72 ≤ 140737488355328 ∧ (A = none → c = 0) ∧ Rd w B A (cellsS l) ∧ ∀ x ∈ l, SPok w B x
section
variable {w w' : World} {B B' : Nat} {l : List SP} {A : Option Addr} {c : Nat}
theorem SPok.below {x : SP} (h : SPok w B x) (hb : Below B w w') : SPok w' B x := ⟨h.1.below hb, h.2.1.below hb, h.2.2⟩
theorem SPok.more {x : SP} (h : SPok w B x) (hB : B ≤ B') : SPok w B' x := ⟨h.1.more hB, h.2.1.more hB, h.2.2⟩
theorem Ss.below (h : Ss w B l A c) (hb : Below B w w') : Ss w' B l A c := ⟨h.1, h.2.1, h.2.2.1, h.2.2.2.1.keep fun _ hp => hb.cell hp, fun x hx => (h.2.2.2.2 x hx).below hb⟩
theorem Ss.at_ (h : Ss w B l A c) {j : Nat} (hj : j < l.length) : ∃ b off, A = some ⟨b, off, none⟩ ∧ b < B ∧ w.cell? ⟨b, off + j * 4, none⟩ = some (.int .i64 l[j].k) ∧ w.cell? ⟨b, off + j * 4 + 1, none⟩ = some (.slice l[j].A l[j].l.length l[j].c) ∧ w.cell? ⟨b, off + j * 4 + 2, none⟩ = some (.string l[j].s) ∧ w.cell? ⟨b, off + j * 4 + 3, none⟩ = some (.slice l[j].D l[j].ps.length l[j].d) ∧ SPok w B l[j] := by
  obtain ⟨c0, c1, c2, c3⟩ := cellsS_at l hj
  obtain ⟨b, off, e, hb, h0⟩ := h.2.2.2.1 _ _ c0
  obtain ⟨b1, off1, e1, hb1, h1⟩ := h.2.2.2.1 _ _ c1
  obtain ⟨b2, off2, e2, hb2, h2⟩ := h.2.2.2.1 _ _ c2
  obtain ⟨b3, off3, e3, hb3, h3⟩ := h.2.2.2.1 _ _ c3
  rw [e] at e1 e2 e3
  cases e1
  cases e2
  cases e3
  exact ⟨b, off, e, hb, h0, by rw [Nat.add_assoc]; exact h1, by rw [Nat.add_assoc]; exact h2, by rw [Nat.add_assoc]; exact h3, h.2.2.2.2 _ (List.getElem_mem hj)⟩
theorem Ss.take (h : Ss w B l A c) {k : Nat} (hk : k ≤ l.length) : Ss w B (l.take k) A c := by
  obtain ⟨h1, h2, h3, h4, h5⟩ := h
  have hl : (l.take k).length = k := by rw [List.length_take]; omega
  refine ⟨by omega, by omega, h3, fun j u hj => h4 j u ?_, fun x hx => h5 x (List.mem_of_mem_take hx)⟩
  have e : cellsS l = cellsS (l.take k) ++ cellsS (l.drop k) := by rw [← cellsS_app, List.take_append_drop]
  rw [e, List.getElem?_append_left (by rcases Nat.lt_or_ge j (cellsS (l.take k)).length with h | h; exact h; rw [List.getElem?_eq_none h] at hj; cases hj)]
  exact hj
end

theorem gatherS (W : World) (a : Addr) (len : Nat) (h : ∀ i, i < len → ∃ x : SP, (SPok W W.heap.size x) ∧ ∀ r u, (x.cells)[r]? = some u → W.cell? (a.add (i * 4 + r)) = some u) :
    ∃ l : List SP, l.length = len ∧ (∀ x ∈ l, SPok W W.heap.size x) ∧ ∀ j u, (cellsS l)[j]? = some u → W.cell? (a.add j) = some u := by
  induction len with
  | zero => exact ⟨[], rfl, (fun x hx => by cases hx), fun j u h => by simp [cellsS] at h⟩
  | succ n ih =>
    obtain ⟨l, hl, hf, hc⟩ := ih (fun i hi => h i (by omega))
    obtain ⟨x, hx, hcs⟩ := h n (by omega)
    have hxl : (cellsS l).length = l.length * 4 := by rw [cellsS_len]
    refine ⟨l ++ [x], by simp [hl], fun y hy => ?_, fun j u hj => ?_⟩
    · rcases List.mem_append.1 hy with e | e
      · exact hf y e
      · rw [List.mem_singleton.1 e]; exact hx
    · rw [cellsS_app] at hj
      rcases Nat.lt_or_ge j (cellsS l).length with hlt | hge
      · rw [List.getElem?_append_left hlt] at hj
        exact hc j u hj
      · rw [List.getElem?_append_right hge, show cellsS [x] = x.cells by simp [cellsS]] at hj
        have := hcs (j - (cellsS l).length) u hj
        rwa [show n * 4 + (j - (cellsS l).length) = j by omega] at this

section
variable {H : Type} {enc : TypeId × Value → H} {W : World}
set_option maxRecDepth 100000 in
theorem open_stepcells {m : Nat} {cs : List Value} {x : DataW H × List MemPlace} (h : DataW.trod enc Try.prog W 0 (fun _ => true) true m 72 cs = some x) (hw : (x.1.weights Try.prog 72).all (· ≤ reachBytes) = true) : ∃ y : SP, cs = y.cells ∧ SPok W W.heap.size y := by
  obtain ⟨ys, n, hn, hx, hlen, hyl, hf⟩ := DataW.trod_struct Try.underlying72 h
  have k4 : Try.prog.cellsOf 72 = 4 := by kernel_rfl
  rw [k4] at hlen
  match cs, hlen, ys, hyl with
  | [c0, c1, c2, c3], _, [y0, y1, y2, y3], _ =>
    have k3 : Try.prog.cellsOf 3 = 1 := by kernel_rfl
    have k9 : Try.prog.cellsOf 9 = 1 := by kernel_rfl
    have kO : Try.prog.cellsOf 70 = 1 := by kernel_rfl
    have kT : Try.prog.cellsOf 22 = 1 := by kernel_rfl
    have f0 : DataW.trod enc Try.prog W 0 (fun _ => true) true n 3 (List.take (Try.prog.cellsOf 3) (List.drop 0 [c0, c1, c2, c3])) = some y0 := hf 0 _ rfl
    have f1 : DataW.trod enc Try.prog W 0 (fun _ => true) true n 70 (List.take (Try.prog.cellsOf 70) (List.drop 1 [c0, c1, c2, c3])) = some y1 := hf 1 _ rfl
    have f2 : DataW.trod enc Try.prog W 0 (fun _ => true) true n 9 (List.take (Try.prog.cellsOf 9) (List.drop 2 [c0, c1, c2, c3])) = some y2 := hf 2 _ rfl
    have f3 : DataW.trod enc Try.prog W 0 (fun _ => true) true n 22 (List.take (Try.prog.cellsOf 22) (List.drop 3 [c0, c1, c2, c3])) = some y3 := hf 3 _ rfl
    rw [k3] at f0
    rw [kO] at f1
    rw [k9] at f2
    rw [kT] at f3
    obtain ⟨k, e0, _, w0⟩ := DataW.trod_int Try.underlying3 f0
    obtain ⟨s, e2, _, w2⟩ := DataW.trod_string Try.underlying9 f2
    obtain ⟨l, A, c, e1, hO⟩ := open_ops f1 (by
      rw [List.all_eq_true]
      intro n hn
      have : n ∈ x.1.weights Try.prog 72 := by
        rw [hx]
        simp only [DataW.weights, Try.underlying72, DataW.weightsEach, List.map_cons, List.mem_append]
        exact .inr (.inl hn)
      simpa using all_mem hw this)
    obtain ⟨ps, D, d, e3, hT⟩ := open_texts f3 (by
      rw [List.all_eq_true]
      intro n hn
      have : n ∈ x.1.weights Try.prog 72 := by
        rw [hx]
        simp only [DataW.weights, Try.underlying72, DataW.weightsEach, List.map_cons, List.mem_append]
        exact .inr (.inr (.inr (.inl hn)))
      simpa using all_mem hw this)
    simp at e0 e1 e2 e3
    subst e0 e1 e2 e3
    exact ⟨⟨k, l, A, c, s, ps, D, d⟩, rfl, hO, hT, w2⟩
set_option maxRecDepth 100000 in
theorem open_steps {m : Nat} {cs : List Value} {x : DataW H × List MemPlace} (h : DataW.trod enc Try.prog W 0 (fun _ => true) true m 60 cs = some x) (hw : (x.1.weights Try.prog 60).all (· ≤ reachBytes) = true) :
    ∃ (l : List SP) (A : Option Addr) (c : Nat), cs = [.slice A l.length c] ∧ Ss W W.heap.size l A c := by
  rcases DataW.trod_slice Try.underlying60 h with ⟨rfl, _⟩ | ⟨a, len, cap, elems, rest, n, hn, rfl, rfl, _, hlc, hcm, hlen, hel, hsp, _⟩
  · exact ⟨[], none, 0, rfl, Nat.le_refl _, by simp, (fun _ => rfl), Rd.nil _ _ _, fun x hx => by cases hx⟩
  · have hrest := (hsp rfl).1
    have bytesE : Try.prog.bytesOf 72 = 72 := by kernel_rfl
    have cellsE : Try.prog.cellsOf 72 = 4 := by kernel_rfl
    have hcap : cap * 72 ≤ reachBytes := by
      refine all_mem hw ?_
      simp only [DataW.weights, Try.underlying60, bytesE, List.length_map]
      rw [show elems.length + rest.length = cap by omega]
      exact List.mem_cons_self
    have hr47 : reachBytes ≤ 140737488355328 := by decide
    obtain ⟨l, hl, hf, hc⟩ := gatherS W a len (fun i hi => by
      have h1 := hel i hi
      rw [cellsE] at h1
      have hie : elems[i]? = some elems[i] := List.getElem?_eq_getElem (by omega)
      rw [hie] at h1
      obtain ⟨cs', hcs, htr⟩ := Option.bind_eq_some_iff.1 h1
      obtain ⟨_, hcl, hat⟩ := World.cells?_some hcs
      obtain ⟨y, rfl, hy⟩ := open_stepcells htr (by
        rw [List.all_eq_true]
        intro n hn
        have : n ∈ DataW.weights Try.prog 60 (DataW.slice (elems.map (·.1)) (rest.map (·.1))) := by
          simp only [DataW.weights, Try.underlying60, List.mem_cons, List.mem_append]
          exact .inr (.inl (weightsAll_in (List.mem_map_of_mem (List.getElem_mem (by omega))) n hn))
        simpa using all_mem hw this)
      refine ⟨y, hy, fun r u hr => ?_⟩
      have hr3 : r < 4 := by have := (List.getElem?_eq_some_iff.1 hr).1; simpa [SP.cells] using this
      have := hat r hr3
      rw [Go.Deep.add_add] at this
      exact this.trans hr)
    subst hl
    refine ⟨l, some a, cap, rfl, hlc, by omega, (fun e => by cases e), fun j u hj => ?_, hf⟩
    have hpos : 0 < (cellsS l).length := by have := (List.getElem?_eq_some_iff.1 hj).1; omega
    have h0 := hc 0 (cellsS l)[0] (List.getElem?_eq_getElem hpos)
    rw [show a.add 0 = a by simp [Addr.add]] at h0
    obtain ⟨b, off, rfl⟩ := plain_of_cell h0
    refine ⟨b, off, rfl, World.block_lt_of_cell? W _ h0, ?_⟩
    have := hc j u hj
    rwa [base.add_plain] at this
set_option maxRecDepth 100000 in
theorem open_steps_arg {r : Reach} {b0 : Nat} {v : Value} {d : DataW H} {p : List MemPlace} (hv : Value.okWide Try.prog W r b0 60 v) (h : DataW.Trod enc Try.prog W 0 (fun _ => true) true 60 v d p)
    (hw : (d.weights Try.prog 60).all (· ≤ reachBytes) = true) : ∃ (l : List SP) (A : Option Addr) (c : Nat), v = .slice A l.length c ∧ Ss W W.heap.size l A c := by
  obtain ⟨a, len, cap, rfl⟩ := okWide_slice Try.underlying60 hv
  obtain ⟨m, hm⟩ := h
  obtain ⟨l, A, c, hcs, h1⟩ := open_steps hm hw
  simp [Value.cells] at hcs
  obtain ⟨rfl, rfl, rfl⟩ := hcs
  exact ⟨l, a, cap, rfl, h1⟩

end
set_option maxRecDepth 100000 in
set_option maxHeartbeats 4000000 in
theorem shortS_any (l : List SP) (A : Option Addr) (c : Nat) (w : World) (hT : Ss w w.heap.size l A c) :
    Calls Try.prog 35 #[.slice A l.length c, .int .i64 60] w fun e w' => e = .returned (.slice A (l.take 60).length c) ∧ w' = w := by
  have hlen : l.length ≤ 140737488355328 := by have := hT.2.1; omega
  have hlc := hT.1
  by_cases hlt : 60 < l.length
  · have d0 : decide ((60 : Int) < (l.length : Int)) = true := decide_eq_true (by omega)
    have hkc : 60 ≤ c := by omega
    have hl2 : (l.take 60).length = 60 := by rw [List.length_take]; omega
    go_enter Try.func35, Try.ntmps35
    go_wp2_with fail
    go_ret
    exact ⟨by rw [hl2]; rfl, rfl⟩
  · have d0 : decide ((60 : Int) < (l.length : Int)) = false := decide_eq_false (by omega)
    have hl2 : l.take 60 = l := List.take_of_length_le (by omega)
    go_enter Try.func35, Try.ntmps35
    go_wp2_with fail
    go_ret
    exact ⟨by rw [hl2]; rfl, rfl⟩

end Go.Proofs.Ytjlglfjikfpboaa.books
