/- The calls of the tree laws. -/
import Derived.Test.YtnndohdiiglgmaaKLsF
import Derived.Test.YtnndohdiiglgmaaKNdO


namespace Go.Proofs.Ytnndohdiiglgmaa.trees
set_option linter.unusedVariables false
set_option linter.unusedSimpArgs false
open Go.RowKit Go.ChangeShapes Go.WideShapes Go.Proofs.Ytnndohdiiglgmaa.base Go.Proofs.Ytnndohdiiglgmaa.quotas Go.Proofs.Ytnndohdiiglgmaa.vers Go.Proofs.Ytnndohdiiglgmaa.nodes

structure TO where
  k : Int
  n : ByteArray
  v : ByteArray
  A : Option Addr
  m : Nat
  c : Nat
  b : Int
def TO.cells (x : TO) : List Value := [.int .i64 x.k, .string x.n, .string x.v, .slice x.A x.m x.c, .int .i64 x.b]
def TO.fits (x : TO) : Prop := x.n.size ≤ maxLen ∧ x.v.size ≤ maxLen
def cellsT : List TO → List Value
  | [] => []
  | x :: l => x.cells ++ cellsT l
theorem cellsT_len : ∀ l : List TO, (cellsT l).length = 5 * l.length
  | [] => rfl
  | x :: l => by rw [cellsT, List.length_append, cellsT_len l]; simp [TO.cells]; omega
theorem cellsT_app : ∀ l m : List TO, cellsT (l ++ m) = cellsT l ++ cellsT m
  | [], m => rfl
  | x :: l, m => by rw [List.cons_append, cellsT, cellsT_app l m, cellsT, List.append_assoc]
theorem cellsT_at : ∀ (l : List TO) {j : Nat} (hj : j < l.length), (cellsT l)[j * 5]? = some (.int .i64 l[j].k) ∧ (cellsT l)[j * 5 + 1]? = some (.string l[j].n) ∧ (cellsT l)[j * 5 + 2]? = some (.string l[j].v) ∧ (cellsT l)[j * 5 + 3]? = some (.slice l[j].A l[j].m l[j].c) ∧ (cellsT l)[j * 5 + 4]? = some (.int .i64 l[j].b)
  | x :: l, 0, _ => ⟨rfl, rfl, rfl, rfl, rfl⟩
  | x :: l, j + 1, hj => by
    have ih := cellsT_at l (j := j) (by simpa using hj)
    have h3 : x.cells.length = 5 := rfl
    simp only [cellsT, List.getElem_cons_succ]
    refine ⟨?_, ?_, ?_, ?_, ?_⟩
    · rw [List.getElem?_append_right (by omega), h3, show (j + 1) * 5 - 5 = j * 5 by omega]; exact ih.1
    · rw [List.getElem?_append_right (by omega), h3, show (j + 1) * 5 + 1 - 5 = j * 5 + 1 by omega]; exact ih.2.1
    · rw [List.getElem?_append_right (by omega), h3, show (j + 1) * 5 + 2 - 5 = j * 5 + 2 by omega]; exact ih.2.2.1
    · rw [List.getElem?_append_right (by omega), h3, show (j + 1) * 5 + 3 - 5 = j * 5 + 3 by omega]; exact ih.2.2.2.1
    · rw [List.getElem?_append_right (by omega), h3, show (j + 1) * 5 + 4 - 5 = j * 5 + 4 by omega]; exact ih.2.2.2.2
/-- the slice (A, l.length, c) holds the calls l, below block B -/
def Tos (w : World) (B : Nat) (l : List TO) (A : Option Addr) (c : Nat) : Prop := l.length ≤ c ∧ l.length * 72 ≤ 140737488355328 ∧ (A = none → c = 0) ∧ Rd w B A (cellsT l) ∧ ∀ x ∈ l, x.fits
section
variable {w w' : World} {B B' : Nat} {l : List TO} {A : Option Addr} {c : Nat}
theorem Tos.below (h : Tos w B l A c) (hb : Below B w w') : Tos w' B l A c := ⟨h.1, h.2.1, h.2.2.1, h.2.2.2.1.keep fun _ hp => hb.cell hp, h.2.2.2.2⟩
theorem Tos.more (h : Tos w B l A c) (hB : B ≤ B') : Tos w B' l A c := ⟨h.1, h.2.1, h.2.2.1, h.2.2.2.1.more hB, h.2.2.2.2⟩
theorem Tos.at_world {wr : World} (h : Tos w w.heap.size l A c) (hb : Below w.heap.size w wr) : Tos wr wr.heap.size l A c := (h.below hb).more hb.size
theorem Tos.nil (w : World) (B : Nat) : Tos w B [] none 0 := ⟨Nat.le_refl _, by simp, fun _ => rfl, Rd.nil _ _ _, fun x h => by cases h⟩
theorem Tos.at_ (h : Tos w B l A c) {j : Nat} (hj : j < l.length) : ∃ b off, A = some ⟨b, off, none⟩ ∧ b < B ∧ w.cell? ⟨b, off + j * 5, none⟩ = some (.int .i64 l[j].k) ∧ w.cell? ⟨b, off + j * 5 + 1, none⟩ = some (.string l[j].n) ∧ w.cell? ⟨b, off + j * 5 + 2, none⟩ = some (.string l[j].v) ∧ w.cell? ⟨b, off + j * 5 + 3, none⟩ = some (.slice l[j].A l[j].m l[j].c) ∧ w.cell? ⟨b, off + j * 5 + 4, none⟩ = some (.int .i64 l[j].b) := by
  obtain ⟨c0, c1, c2, c3, c4⟩ := cellsT_at l hj
  obtain ⟨b, off, e, hb, h0⟩ := h.2.2.2.1 _ _ c0
  obtain ⟨b1, off1, e1, hb1, h1⟩ := h.2.2.2.1 _ _ c1
  obtain ⟨b2, off2, e2, hb2, h2⟩ := h.2.2.2.1 _ _ c2
  obtain ⟨b3, off3, e3, hb3, h3⟩ := h.2.2.2.1 _ _ c3
  obtain ⟨b4, off4, e4, hb4, h4⟩ := h.2.2.2.1 _ _ c4
  rw [e] at e1 e2 e3 e4
  cases e1
  cases e2
  cases e3
  cases e4
  exact ⟨b, off, e, hb, h0, by rw [Nat.add_assoc]; exact h1, by rw [Nat.add_assoc]; exact h2, by rw [Nat.add_assoc]; exact h3, by rw [Nat.add_assoc]; exact h4⟩
theorem Tos.take (h : Tos w B l A c) {k : Nat} (hk : k ≤ l.length) : Tos w B (l.take k) A c := by
  obtain ⟨h1, h2, h3, h4, h5⟩ := h
  have hl : (l.take k).length = k := by rw [List.length_take]; omega
  refine ⟨by omega, by omega, h3, fun j u hj => h4 j u ?_, fun x hx => h5 x (List.mem_of_mem_take hx)⟩
  have e : cellsT l = cellsT (l.take k) ++ cellsT (l.drop k) := by rw [← cellsT_app, List.take_append_drop]
  rw [e, List.getElem?_append_left (by rcases Nat.lt_or_ge j (cellsT (l.take k)).length with h | h; exact h; rw [List.getElem?_eq_none h] at hj; cases hj)]
  exact hj
end
/-- calls in a row of the call's own -/
def TosOwn (w w' : World) (v : Value) (l : List TO) : Prop := w'.ownsRow 0 36 5 v l.length (cellsT l) ∧ (∀ g, v.ownBlock = some g → w.heap.size ≤ g) ∧ ∀ x ∈ l, x.fits
theorem TosOwn.ts {w w' : World} {v : Value} {l : List TO} (h : TosOwn w w' v l) (hl : l.length ≤ 1000000) : ∃ A c, v = .slice A l.length c ∧ Tos w' w'.heap.size l A c := by
  obtain ⟨A, c, e, h1, h2, h3⟩ := row_rdF h.1
  exact ⟨A, c, e, h1, by omega, h2, h3.rd, h.2.2⟩
theorem infoOp : (Try.prog.info? 36).map (fun i => (i.zero, i.size, i.bytes)) = some (some (.agg #[.int .i64 0, .string ⟨#[]⟩, .string ⟨#[]⟩, .slice none 0 0, .int .i64 0]), 5, 72) := by kernel_rfl
/-- append of one call -/
theorem wp_op {ops : Array Oper} {rest : List Oper} {o : Oper} {a : Act} {Q : Exit → Act → World → Prop} (hgd : o.guard = none) (s x : Operand) (ho : o.op = .call { callee := .builtin .append, args := #[s, x], argTypes := #[22, 22] })
    {w : World} {v : Value} {l : List TO} {e : TO} (hown : w.ownsRow 0 36 5 v l.length (cellsT l)) (hs : a.eval s = v) {q : Nat} (hx : a.eval x = .slice (some ⟨q, 0, none⟩) 1 1) (hqz : q = w.heap.size) (hlen : l.length ≤ 1000000)
    (h : ∀ v' w', w'.ownsRow 0 36 5 v' (l ++ [e]).length (cellsT (l ++ [e])) → Keep (fun g => v.ownBlock = some g) w w' → (∀ g, v'.ownBlock = some g → v.ownBlock = some g ∨ (w.heap.size ≤ g ∧ g < w'.heap.size)) → w.heap.size + 1 ≤ w'.heap.size → wpList Try.prog ops Q rest (a.put o.dst v') w') :
    wpList Try.prog ops Q (o :: rest) a (w.alloc (.cells #[.int .i64 e.k, .string e.n, .string e.v, .slice e.A e.m e.c, .int .i64 e.b] 36)) := by
  obtain ⟨i0, hi0, hz0, hz1, hz2⟩ := info_parts infoOp
  refine wpList_put1 Try.underlying22 hi0 hz0 hz1 hz2 rfl (by decide) hgd s x ho hown hs rfl (by intro u hu; simp at hu; rcases hu with rfl | rfl | rfl | rfl | rfl <;> rfl) hx hqz (by omega) (by unfold maxLen; omega) ?_
  intro v' w' h1 h2 h3 h4
  refine h v' w' ?_ h2 h3 h4
  rw [List.length_append, cellsT_app]
  exact h1

/-- a list out of its elements -/
theorem gatherO (W : World) (a : Addr) (len : Nat) (h : ∀ i, i < len → ∃ x : TO, x.fits ∧ ∀ r u, x.cells[r]? = some u → W.cell? (a.add (i * 5 + r)) = some u) :
    ∃ l : List TO, l.length = len ∧ (∀ x ∈ l, x.fits) ∧ ∀ j u, (cellsT l)[j]? = some u → W.cell? (a.add j) = some u := by
  induction len with
  | zero => exact ⟨[], rfl, (fun x hx => by cases hx), fun j u h => by simp [cellsT] at h⟩
  | succ n ih =>
    obtain ⟨l, hl, hf, hc⟩ := ih (fun i hi => h i (by omega))
    obtain ⟨x, hx, hcs⟩ := h n (by omega)
    have hxl := cellsT_len l
    refine ⟨l ++ [x], by simp [hl], fun y hy => ?_, fun j u hj => ?_⟩
    · rcases List.mem_append.1 hy with e | e
      · exact hf y e
      · rw [List.mem_singleton.1 e]; exact hx
    · rw [cellsT_app] at hj
      rcases Nat.lt_or_ge j (cellsT l).length with hlt | hge
      · rw [List.getElem?_append_left hlt] at hj
        exact hc j u hj
      · rw [List.getElem?_append_right hge, show cellsT [x] = x.cells by simp [cellsT]] at hj
        have := hcs (j - (cellsT l).length) u hj
        rwa [show n * 5 + (j - (cellsT l).length) = j by omega] at this

theorem bytesOp : Try.prog.bytesOf 36 = 72 := by kernel_rfl
theorem cellsOp : Try.prog.cellsOf 36 = 5 := by kernel_rfl
section
variable {H : Type} {enc : TypeId × Value → H} {W : World}
set_option maxRecDepth 100000 in
theorem open_op {m : Nat} {cs : List Value} {x : DataW H × List MemPlace} (h : DataW.trod enc Try.prog W 0 (fun _ => true) true m 36 cs = some x) : ∃ y : TO, cs = y.cells ∧ y.fits := by
  obtain ⟨ys, n, hn, hx, hlen, hyl, hf⟩ := DataW.trod_struct Try.underlying36 h
  rw [cellsOp] at hlen
  match cs, hlen, ys, hyl with
  | [c0, c1, c2, c3, c4], _, [y0, y1, y2, y3, y4], _ =>
    have k3 : Try.prog.cellsOf 3 = 1 := by kernel_rfl
    have k9 : Try.prog.cellsOf 9 = 1 := by kernel_rfl
    have kS : Try.prog.cellsOf 34 = 1 := by kernel_rfl
    have f1 : DataW.trod enc Try.prog W 0 (fun _ => true) true n 9 (List.take (Try.prog.cellsOf 9) (List.drop 1 [c0, c1, c2, c3, c4])) = some y1 := hf 1 _ rfl
    have f0 : DataW.trod enc Try.prog W 0 (fun _ => true) true n 3 (List.take (Try.prog.cellsOf 3) (List.drop 0 [c0, c1, c2, c3, c4])) = some y0 := hf 0 _ rfl
    have f2 : DataW.trod enc Try.prog W 0 (fun _ => true) true n 9 (List.take (Try.prog.cellsOf 9) (List.drop 2 [c0, c1, c2, c3, c4])) = some y2 := hf 2 _ rfl
    have f3 : DataW.trod enc Try.prog W 0 (fun _ => true) true n 34 (List.take (Try.prog.cellsOf 34) (List.drop 3 [c0, c1, c2, c3, c4])) = some y3 := hf 3 _ rfl
    have f4 : DataW.trod enc Try.prog W 0 (fun _ => true) true n 3 (List.take (Try.prog.cellsOf 3) (List.drop 4 [c0, c1, c2, c3, c4])) = some y4 := hf 4 _ rfl
    rw [k3] at f0 f4
    rw [k9] at f1 f2
    rw [kS] at f3
    obtain ⟨k, e0, _, w0⟩ := DataW.trod_int Try.underlying3 f0
    obtain ⟨s, e1, _, w1⟩ := DataW.trod_string Try.underlying9 f1
    obtain ⟨t, e2, _, w2⟩ := DataW.trod_string Try.underlying9 f2
    obtain ⟨b, e4, _, w4⟩ := DataW.trod_int Try.underlying3 f4
    obtain ⟨A, m9, c, e3⟩ : ∃ A m9 c, List.take 1 (List.drop 3 [c0, c1, c2, c3, c4]) = [Value.slice A m9 c] := by
      rcases DataW.trod_slice Try.underlying34 f3 with ⟨h1, _⟩ | ⟨a, len, cap, elems, rest, n, hn, h1, _⟩
      · exact ⟨none, 0, 0, h1⟩
      · exact ⟨some a, len, cap, h1⟩
    simp at e0 e1 e2 e3 e4
    subst e0 e1 e2 e3 e4
    exact ⟨⟨k, s, t, A, m9, c, b⟩, rfl, w1, w2⟩

set_option maxRecDepth 100000 in
theorem open_tos {m : Nat} {cs : List Value} {x : DataW H × List MemPlace} (h : DataW.trod enc Try.prog W 0 (fun _ => true) true m 22 cs = some x) (hw : (x.1.weights Try.prog 22).all (· ≤ reachBytes) = true) :
    ∃ (l : List TO) (A : Option Addr) (c : Nat), cs = [.slice A l.length c] ∧ Tos W W.heap.size l A c := by
  rcases DataW.trod_slice Try.underlying22 h with ⟨rfl, _⟩ | ⟨a, len, cap, elems, rest, n, hn, rfl, rfl, _, hlc, hcm, hlen, hel, hsp, _⟩
  · exact ⟨[], none, 0, rfl, Nat.le_refl _, by simp, (fun _ => rfl), Rd.nil _ _ _, fun x hx => by cases hx⟩
  · have hrest := (hsp rfl).1
    have hcap : cap * 72 ≤ reachBytes := by
      refine all_mem hw ?_
      simp only [DataW.weights, Try.underlying22, bytesOp, List.length_map]
      rw [show elems.length + rest.length = cap by omega]
      exact List.mem_cons_self
    have hr47 : reachBytes ≤ 140737488355328 := by decide
    obtain ⟨l, hl, hf, hc⟩ := gatherO W a len (fun i hi => by
      have h1 := hel i hi
      rw [cellsOp] at h1
      have hie : elems[i]? = some elems[i] := List.getElem?_eq_getElem (by omega)
      rw [hie] at h1
      obtain ⟨cs', hcs, htr⟩ := Option.bind_eq_some_iff.1 h1
      obtain ⟨_, hcl, hat⟩ := World.cells?_some hcs
      obtain ⟨y, rfl, hy⟩ := open_op htr
      refine ⟨y, hy, fun r u hr => ?_⟩
      have hr3 : r < 5 := by have := (List.getElem?_eq_some_iff.1 hr).1; simpa [TO.cells] using this
      have := hat r hr3
      rw [Go.Deep.add_add] at this
      rw [this, hr])
    subst hl
    refine ⟨l, some a, cap, rfl, hlc, by omega, (fun e => by cases e), fun j u hj => ?_, hf⟩
    have hpos : 0 < (cellsT l).length := by have := (List.getElem?_eq_some_iff.1 hj).1; omega
    have h0 := hc 0 (cellsT l)[0] (List.getElem?_eq_getElem hpos)
    rw [show a.add 0 = a by simp [Addr.add]] at h0
    obtain ⟨b, off, rfl⟩ := plain_of_cell h0
    refine ⟨b, off, rfl, World.block_lt_of_cell? W _ h0, ?_⟩
    have := hc j u hj
    rwa [base.add_plain] at this

set_option maxRecDepth 100000 in
theorem open_tops_arg {r : Reach} {b0 : Nat} {v : Value} {d : DataW H} {p : List MemPlace} (hv : Value.okWide Try.prog W r b0 22 v) (h : DataW.Trod enc Try.prog W 0 (fun _ => true) true 22 v d p)
    (hw : (d.weights Try.prog 22).all (· ≤ reachBytes) = true) : ∃ (l : List TO) (A : Option Addr) (c : Nat), v = .slice A l.length c ∧ Tos W W.heap.size l A c := by
  obtain ⟨a, len, cap, rfl⟩ := okWide_slice Try.underlying22 hv
  obtain ⟨m, hm⟩ := h
  obtain ⟨l, A, c, hcs, h1⟩ := open_tos hm hw
  simp [Value.cells] at hcs
  obtain ⟨rfl, rfl, rfl⟩ := hcs
  exact ⟨l, a, cap, rfl, h1⟩
end

set_option maxRecDepth 100000 in
set_option maxHeartbeats 4000000 in
theorem shortT_any (l : List TO) (A : Option Addr) (c : Nat) (m : Nat) (hm : m ≤ 100) (w : World) (hT : Tos w w.heap.size l A c) :
    Calls Try.prog 13 #[.slice A l.length c, .int .i64 (m : Int)] w fun e w' => e = .returned (.slice A (l.take m).length c) ∧ w' = w := by
  have hlen : l.length ≤ 140737488355328 := by have := hT.2.1; omega
  have hlc := hT.1
  by_cases hlt : m < l.length
  · have d0 : decide ((m : Int) < (l.length : Int)) = true := decide_eq_true (by omega)
    have hkc : m ≤ c := by omega
    have hl2 : (l.take m).length = m := by rw [List.length_take]; omega
    go_enter Try.func13, Try.ntmps13
    go_wp2_with fail
    go_ret
    exact ⟨by rw [hl2]; rfl, rfl⟩
  · have d0 : decide ((m : Int) < (l.length : Int)) = false := decide_eq_false (by omega)
    have hl2 : l.take m = l := List.take_of_length_le (by omega)
    go_enter Try.func13, Try.ntmps13
    go_wp2_with fail
    go_ret
    exact ⟨by rw [hl2]; rfl, rfl⟩

abbrev TO.val (x : TO) : Value := .agg #[.int .i64 x.k, .string x.n, .string x.v, .slice x.A x.m x.c, .int .i64 x.b]
def vOf (v : ByteArray) : V := ⟨1, v, ⟨#[]⟩⟩

set_option maxRecDepth 100000 in
set_option maxHeartbeats 4000000 in
theorem secret_any (x : TO) (w : World) :
    Calls Try.prog 19 #[x.val] w fun e w' => ∃ q, e = .returned (.agg #[.string x.n, .slice (some ⟨q, 0, none⟩) 1 1]) ∧ w.heap.size ≤ q ∧ Blk w' q 137 #[.int .i64 1, .string x.v, .string ⟨#[]⟩] ∧ Below w.heap.size w w' := by
  obtain ⟨xk, xn, xv, xA, xm, xc, xb⟩ := x
  have bX : Below w.heap.size w ((w.alloc (.cells #[.int .i64 xk, .string xn, .string xv, .slice xA xm xc, .int .i64 xb] 36)).alloc (.cells #[.string ⟨#[]⟩, .slice none 0 0] 47)) := ((Below.refl _ _).alloc (Nat.le_refl _) _).alloc (by simp) _
  have kX := (Blk.new w 36 #[.int .i64 xk, .string xn, .string xv, .slice xA xm xc, .int .i64 xb]).alloc (.cells #[.string ⟨#[]⟩, .slice none 0 0] 47)
  have kE := Blk.new (w.alloc (.cells #[.int .i64 xk, .string xn, .string xv, .slice xA xm xc, .int .i64 xb] 36)) 47 #[.string ⟨#[]⟩, .slice none 0 0]
  rw [World.size_alloc] at kE
  generalize hWX : (w.alloc (.cells #[.int .i64 xk, .string xn, .string xv, .slice xA xm xc, .int .i64 xb] 36)).alloc (.cells #[.string ⟨#[]⟩, .slice none 0 0] 47) = WX at *
  have q0 := kX.cell 0
  have q1 := kX.cell 1
  have q2 := kX.cell 2
  simp only [List.getElem?_toArray, List.getElem?_cons_zero, List.getElem?_cons_succ] at q0 q1 q2
  have lX := kX.lt
  have bQ : Below WX.heap.size WX (WX.alloc (.cells #[.int .i64 1, .string xv, .string ⟨#[]⟩] 137)) := (Below.refl _ _).alloc (Nat.le_refl _) _
  have kQ := Blk.new WX 137 #[.int .i64 1, .string xv, .string ⟨#[]⟩]
  have kE1 := kE.below bQ kE.lt
  have lEX := kE.lt
  generalize hWQ : WX.alloc (.cells #[.int .i64 1, .string xv, .string ⟨#[]⟩] 137) = WQ at *
  have f0 := kE1.frozen 0
  have f1 := kE1.frozen 1
  have e0 := kE1.cell 0
  have e1 := kE1.cell 1
  simp only [List.getElem?_toArray, List.getElem?_cons_zero, List.getElem?_cons_succ] at e0 e1
  have lE := kE1.lt
  go_enter Try.func19, Try.ntmps19
  go_wp2_with fail
  have kz := (kE1.put 0 (.string xn)).put 1 (.slice (some ⟨WX.heap.size, 0, none⟩) 1 1)
  have bz := ((bX.trans (bQ.mono bX.size)).setCell (p := ⟨w.heap.size + 1, 0, none⟩) (by simp) (.string xn)).setCell (p := ⟨w.heap.size + 1, 1, none⟩) (by simp) (.slice (some ⟨WX.heap.size, 0, none⟩) 1 1)
  have kQz := (kQ.far (p := ⟨w.heap.size + 1, 0, none⟩) (by show WX.heap.size ≠ w.heap.size + 1; omega) (.string xn)).far (p := ⟨w.heap.size + 1, 1, none⟩) (by show WX.heap.size ≠ w.heap.size + 1; omega) (.slice (some ⟨WX.heap.size, 0, none⟩) 1 1)
  simp only [List.setIfInBounds_toArray, List.set_cons_zero, List.set_cons_succ] at kz
  generalize (WQ.setCell ⟨w.heap.size + 1, 0, none⟩ (.string xn)).setCell ⟨w.heap.size + 1, 1, none⟩ (.slice (some ⟨WX.heap.size, 0, none⟩) 1 1) = wZ at *
  have z0 := kz.cell 0
  have z1 := kz.cell 1
  simp only [List.getElem?_toArray, List.getElem?_cons_zero, List.getElem?_cons_succ] at z0 z1
  refine bodyPost_ret (v := .agg #[.string xn, .slice (some ⟨WX.heap.size, 0, none⟩) 1 1]) (by simp [results, Try.results19, go_sem, z0, z1]) rfl ⟨WX.heap.size, rfl, bX.size, kQz, bz⟩

/-- a secret's value in a list, by its name -/
def hasT (l : List TO) (s : ByteArray) : ByteArray × Bool := match l.find? fun x => decide (x.n = s) with | some x => (x.v, true) | none => (⟨#[]⟩, false)
theorem hasT_skip {x : TO} {l : List TO} {s : ByteArray} (h : x.n ≠ s) : hasT (x :: l) s = hasT l s := by unfold hasT; rw [List.find?_cons_of_neg (by simpa using h)]
theorem hasT_take {x : TO} {l : List TO} : hasT (x :: l) x.n = (x.v, true) := by unfold hasT; rw [List.find?_cons_of_pos (by simp)]

set_option maxRecDepth 100000 in
set_option maxHeartbeats 4000000 in
theorem has_any (l : List TO) (A : Option Addr) (c : Nat) (s : ByteArray) (w : World) (hT : Tos w w.heap.size l A c) :
    Calls Try.prog 15 #[.slice A l.length c, .string s] w fun e w' => e = .returned (.tuple #[.string (hasT l s).1, .bool (hasT l s).2]) ∧ Below w.heap.size w w' := by
  have hlen : l.length ≤ 140737488355328 := by have := hT.2.1; omega
  obtain ⟨z, hz⟩ : ∃ z, z = hasT l s := ⟨_, rfl⟩
  rw [← hz]
  have HT := vers.lay hT
  have HZ := vers.lay hz
  clear hT hz
  go_enter Try.func15, Try.ntmps15
  go_wp2_with fail
  go_loopw [10] (fun i wr => ∃ j : Nat, j ≤ l.length ∧ i = .int .i64 (j : Int) ∧ Below w.heap.size w wr ∧ Hid (z = hasT (l.drop j) s)) (fun i _ => l.length - (intOf i).toNat)
  case atStart => exact ⟨0, Nat.zero_le _, rfl, Below.refl _ _, HZ⟩
  case round =>
    clear HZ
    obtain ⟨j, hj, rfl, hb, hH⟩ := hrel
    by_cases hlt : j < l.length
    · obtain ⟨bk, off, rfl, hbk, x0, x1, x2, x3, x4⟩ := (HT.out.below hb).at_ hlt
      have hd := hH.out.trans (congrArg (fun q => hasT q s) (List.drop_eq_getElem_cons hlt))
      generalize l[j] = x at x0 x1 x2 x3 x4 hd
      obtain ⟨xk, xn, xv, xA, xm, xc, xb⟩ := x
      simp only [] at x0 x1 x2 x3 x4 hd
      have bX : Below wr.heap.size wr (wr.alloc (.cells #[.int .i64 xk, .string xn, .string xv, .slice xA xm xc, .int .i64 xb] 36)) := (Below.refl _ _).alloc (Nat.le_refl _) _
      have kX := Blk.new wr 36 #[.int .i64 xk, .string xn, .string xv, .slice xA xm xc, .int .i64 xb]
      have hbs := hb.size
      have hbX := hb.trans (bX.mono hbs)
      generalize hWX : wr.alloc (.cells #[.int .i64 xk, .string xn, .string xv, .slice xA xm xc, .int .i64 xb] 36) = WX at *
      have q0 := kX.cell 0
      have q1 := kX.cell 1
      have q2 := kX.cell 2
      have q3 := kX.cell 3
      have q4 := kX.cell 4
      simp only [List.getElem?_toArray, List.getElem?_cons_zero, List.getElem?_cons_succ] at q0 q1 q2 q3 q4
      have lX := kX.lt
      by_cases he : xn = s
      · subst he
        obtain ⟨g1, g2⟩ := ceq xn
        have HY := vers.lay (hd.trans hasT_take)
        clear hd hH
        go_wp2_with fail
        refine bodyPost_ret (v := .tuple #[.string xv, .bool true]) (by simp [results, Try.results15, go_sem]) rfl ⟨by rw [HY.out], hbX⟩
      · have g1 : (xn.toList == s.toList) = false := by
          rw [beq_eq_false_iff_ne, Lib.toList_data, Lib.toList_data]
          exact fun h => he (name_ext h)
        have HN := vers.lay (hd.trans (hasT_skip he))
        clear hd hH he
        go_wp2_with fail
        exact ⟨⟨j + 1, hlt, by go_num, hbX, HN⟩, by first | (simp [intOf]; done) | (simp [intOf]; omega) | omega⟩
    · obtain rfl : j = l.length := by omega
      have HN := vers.lay (show z = (⟨#[]⟩, false) from hH.out.trans (by rw [List.drop_length]; rfl))
      clear hH
      go_wp2_with fail
      refine bodyPost_ret (v := .tuple #[.string ⟨#[]⟩, .bool false]) (by simp [results, Try.results15, go_sem]) rfl ⟨by rw [HN.out], hb⟩

/-- a list but those of a name -/
def woT (l : List TO) (s : ByteArray) : List TO := l.filter fun x => !decide (x.n = s)
theorem woT_yes {l : List TO} {s : ByteArray} {j : Nat} (hj : j < l.length) (h : l[j].n ≠ s) : woT (l.take (j + 1)) s = woT (l.take j) s ++ [l[j]] := by
  unfold woT
  rw [List.take_succ_eq_append_getElem hj, List.filter_append]
  simp [h]
theorem woT_no {l : List TO} {s : ByteArray} {j : Nat} (hj : j < l.length) (h : l[j].n = s) : woT (l.take (j + 1)) s = woT (l.take j) s := by
  unfold woT
  rw [List.take_succ_eq_append_getElem hj, List.filter_append]
  simp [h]
theorem woT_le (l : List TO) (s : ByteArray) : (woT l s).length ≤ l.length := List.length_filter_le _ _

set_option maxRecDepth 100000 in
set_option maxHeartbeats 4000000 in
theorem without_any (l : List TO) (A : Option Addr) (c : Nat) (s : ByteArray) (w : World) (hT : Tos w w.heap.size l A c) (hll : l.length ≤ 1000) :
    Calls Try.prog 16 #[.slice A l.length c, .string s] w fun e w' => ∃ v, e = .returned v ∧ TosOwn w w' v (woT l s) ∧ Below w.heap.size w w' := by
  have HT := vers.lay hT
  clear hT
  go_enter Try.func16, Try.ntmps16
  go_wp2_with fail
  go_loopw [10, 5] (fun i u wr => ∃ j : Nat, j ≤ l.length ∧ i = .int .i64 (j : Int) ∧ Below w.heap.size w wr ∧ wr.ownsRow 0 36 5 u (woT (l.take j) s).length (cellsT (woT (l.take j) s)) ∧ Hid (∀ g, u.ownBlock = some g → w.heap.size ≤ g)) (fun i _ _ => l.length - (intOf i).toNat)
  case atStart => exact ⟨0, Nat.zero_le _, rfl, Below.refl _ _, ⟨rfl, .inl ⟨rfl, rfl⟩⟩, vers.lay (fun g hg => by cases hg)⟩
  case round =>
    obtain ⟨j, hj, rfl, hb, ho, hu⟩ := hrel
    by_cases hlt : j < l.length
    · obtain ⟨bk, off, rfl, hbk, x0, x1, x2, x3, x4⟩ := (HT.out.below hb).at_ hlt
      have hdy := woT_yes (s := s) hlt
      have hdn := woT_no (s := s) hlt
      have hfl := woT_le (l.take j) s
      rw [List.length_take] at hfl
      generalize l[j] = x at x0 x1 x2 x3 x4 hdy hdn
      obtain ⟨xk, xn, xv, xA, xm, xc, xb⟩ := x
      simp only [] at x0 x1 x2 x3 x4 hdy hdn
      have bX : Below wr.heap.size wr (wr.alloc (.cells #[.int .i64 xk, .string xn, .string xv, .slice xA xm xc, .int .i64 xb] 36)) := (Below.refl _ _).alloc (Nat.le_refl _) _
      have kX := Blk.new wr 36 #[.int .i64 xk, .string xn, .string xv, .slice xA xm xc, .int .i64 xb]
      have hbs := hb.size
      have hbX := hb.trans (bX.mono hbs)
      have hoX := row_below ho bX
      generalize hWX : wr.alloc (.cells #[.int .i64 xk, .string xn, .string xv, .slice xA xm xc, .int .i64 xb] 36) = WX at *
      have q0 := kX.cell 0
      have q1 := kX.cell 1
      have q2 := kX.cell 2
      have q3 := kX.cell 3
      have q4 := kX.cell 4
      simp only [List.getElem?_toArray, List.getElem?_cons_zero, List.getElem?_cons_succ] at q0 q1 q2 q3 q4
      have lX := kX.lt
      obtain ⟨old, hold⟩ : ∃ old, old = woT (l.take j) s := ⟨_, rfl⟩
      rw [← hold] at ho hoX hfl hdy hdn
      clear hold ho
      by_cases he : xn = s
      · have HD := vers.lay (hdn he)
        subst he
        obtain ⟨g1, g2⟩ := ceq xn
        clear hdy hdn
        go_wp2_with fail
        exact ⟨⟨j + 1, hlt, by go_num, hbX, by rw [HD.out]; exact hoX, hu⟩, by first | (simp [intOf]; done) | (simp [intOf]; omega) | omega⟩
      · have HD := vers.lay (hdy he)
        have g1 : (xn.toList == s.toList) = false := by
          rw [beq_eq_false_iff_ne, Lib.toList_data, Lib.toList_data]
          exact fun h => he (name_ext h)
        clear hdy hdn he
        go_wp2_with (at_builtin; refine wp_op (e := ⟨xk, xn, xv, xA, xm, xc, xb⟩) rfl _ _ rfl hoX rfl rfl rfl (by omega) ?_; intro v9 w9 ho9 hk9 hv9 hz9)
        exact ⟨⟨j + 1, hlt, by go_num, hbX.trans (hk9.below (fun g hg => hu.out g hg) hbX.size), by rw [HD.out]; exact ho9, vers.lay (fun g hg => (hv9 g hg).elim (fun h => hu.out g h) (fun h => Nat.le_trans hbX.size h.1))⟩, by first | (simp [intOf]; done) | (simp [intOf]; omega) | omega⟩
    · obtain rfl : j = l.length := by omega
      rw [List.take_length] at ho
      obtain ⟨old, hold⟩ : ∃ old, old = woT l s := ⟨_, rfl⟩
      rw [← hold] at ho
      have HOLD := vers.lay hold
      clear hold
      go_wp2_with fail
      go_ret
      refine ⟨u5, rfl, ?_, hb⟩
      rw [← HOLD.out]
      refine ⟨ho, fun g hg => hu.out g hg, fun x hx => ?_⟩
      rw [HOLD.out] at hx
      exact HT.out.2.2.2.2 x (List.mem_filter.1 hx).1

end Go.Proofs.Ytnndohdiiglgmaa.trees
