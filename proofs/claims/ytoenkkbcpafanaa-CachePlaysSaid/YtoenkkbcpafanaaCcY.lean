/- The document's cache: what an append makes; Pin, Unpin. -/
import Derived.Test.YtoenkkbcpafanaaCcW


namespace Go.Proofs.Ytoenkkbcpafanaa.caches
set_option linter.unusedVariables false
set_option linter.unusedSimpArgs false
open Go.RowKit Go.Proofs.Ytoenkkbcpafanaa.base Go.Proofs.Ytoenkkbcpafanaa.vers Go.Proofs.Ytoenkkbcpafanaa.nodes Go.Proofs.Ytoenkkbcpafanaa.trees

/-- what a call of the document's cache answers that tells a number -/
def RPost (w : World) (rp : Nat) (F : Nat → Prop) (room f m : Nat) (ans : Int × List PH) (e : Ending) (w' : World) : Prop := ∃ (E : Int) (v' : Value) (l' : List H) (F' : Nat → Prop), e = .returned (.int .i64 E) ∧ (E, l'.map H.ph) = ans ∧ Rf w' rp F' room f m v' l' ∧ Keep F w w' ∧ ∀ b, F' b → F b ∨ w.heap.size ≤ b
section
variable {A : Option Addr} {c : Nat} {w w' w9 : World} {rp room f m f' m' : Nat} {F G : Nat → Prop} {v v' : Value} {l l' : List H}
theorem Rf.more (h : Rf w rp F room f m v l) (hG : ∀ b, G b → b < w.heap.size) : Rf w rp (fun b => F b ∨ G b) room f m v l :=
  ⟨h.blk, h.row, fun b hb => hb.elim (h.flt b) (hG b), .inl h.fp, fun b hb => ⟨.inl (h.fv b hb).1, (h.fv b hb).2⟩, fun x hx => (h.node x hx).mono fun b hb => ⟨.inl hb.1, hb.2⟩, h.len, h.cap⟩
theorem Rf.push (h : Rf w rp F room f m v l) (x : H) (hx : NsF w (fun b => F b ∧ b ≠ rp ∧ v.ownBlock ≠ some b) x.n) (ho : w9.ownsRow 0 110 8 v' (l.length + 1) (cellsH l ++ x.cells)) (hk : Keep (fun b => v.ownBlock = some b) w w9) (hv : ∀ b, v'.ownBlock = some b → v.ownBlock = some b ∨ (w.heap.size ≤ b ∧ b < w9.heap.size)) (hl : l.length + 1 ≤ room) :
    Rf (w9.setCell ⟨rp, 1, none⟩ v') rp (fun b => (F b ∨ w.heap.size ≤ b) ∧ b < (w9.setCell ⟨rp, 1, none⟩ v').heap.size) room f m v' (l ++ [x]) ∧ Keep F w (w9.setCell ⟨rp, 1, none⟩ v') := by
  have hrpl := h.flt rp h.fp
  refine h.setv (hk.mono fun b e _ => (h.fv b e).1) (hk.blk h.blk fun e => (h.fv rp e).2 rfl) (by rw [List.length_append, List.length_singleton, cellsH_app]; simpa [cellsH] using ho) (fun b hb => ?_) (fun y hy => ?_) (by rw [List.length_append, List.length_singleton]; exact hl)
  · rcases hv b hb with e | e
    · exact ⟨.inl (h.fv b e).1, (h.fv b e).2⟩
    · exact ⟨.inr e.1, by omega⟩
  · have hny : NsF w (fun b => F b ∧ b ≠ rp ∧ v.ownBlock ≠ some b) y.n := by
      rcases List.mem_append.1 hy with e | e
      · exact h.node y e
      · rw [List.mem_singleton.1 e]; exact hx
    refine (hny.agree (w' := w9) fun b hb => hk.block b (h.flt b hb.1) hb.2.2).mono fun b hb => ⟨.inl hb.1, Nat.lt_of_lt_of_le (h.flt b hb.1) hk.size, hb.2.1, fun e => ?_⟩
    rcases hv b e with e1 | e1
    · exact hb.2.2 e1
    · have := h.flt b hb.1; omega
theorem Rf.pin (h : Rf w rp F room f m (.slice A l.length c) l) {i : Nat} (hi : i < l.length) (k : Nat) {b off : Nat} (hA : A = some ⟨b, off, none⟩) : off = 0 ∧ Rf (w.setCell ⟨b, off + i * 8 + 7, none⟩ (.int .i64 (k : Int))) rp F room f m (.slice A l.length c) (repL (H.pins k) l i) ∧ Keep F w (w.setCell ⟨b, off + i * 8 + 7, none⟩ (.int .i64 (k : Int))) ∧ b < w.heap.size ∧ w.frozen? ⟨b, off + i * 8 + 7, none⟩ = false ∧ w.cell? ⟨b, off + i * 8 + 7, none⟩ = some (.int .i64 (l[i].p : Int)) := by
  obtain ⟨g, cap, e, _, hgl, hcap⟩ := own_slice_form h.row (by omega)
  injection e with e1 _ e2
  rw [hA] at e1
  injection e1 with e1
  injection e1 with e1 e3
  subst e1 e2 e3
  subst hA
  have hl : (l.take i).length = i := by rw [List.length_take]; omega
  have e : l = l.take i ++ l[i] :: l.drop (i + 1) := by rw [← List.drop_eq_getElem_cons hi, List.take_append_drop]
  rw [Nat.zero_add]
  have hk := keep_p w b (i * 8 + 7) (.int .i64 (k : Int))
  have hbF := (h.fv b rfl).1
  have hbr := (h.fv b rfl).2
  have hkF : Keep F w (w.setCell ⟨b, i * 8 + 7, none⟩ (.int .i64 (k : Int))) := hk.mono fun c e _ => e ▸ hbF
  have hcell := (h.row.cellAt (i * 8 + 7) (by omega)).trans (cellsH_at l hi).2.2.2.2.2.2.2
  have hrow := (h.row.stored (i * 8 + 7) (.int .i64 (k : Int))).1
  have h1 := cellsH_pin (l.take i) (l.drop (i + 1)) l[i] k
  rw [hl, ← e] at h1
  rw [h1] at hrow
  have hlen : (repL (H.pins k) l i).length = l.length := repL_len _ l hi
  have hmem : ∀ x ∈ repL (H.pins k) l i, ∃ y ∈ l, x.n = y.n := fun x hx => by
    rw [repL_eq _ l hi] at hx
    rcases List.mem_append.1 hx with h1 | h1
    · exact ⟨x, List.mem_of_mem_take h1, rfl⟩
    · rcases List.mem_cons.1 h1 with h1 | h1
      · exact ⟨l[i], List.getElem_mem hi, by rw [h1]; rfl⟩
      · exact ⟨x, List.mem_of_mem_drop h1, rfl⟩
  refine ⟨rfl, ⟨hk.blk h.blk (fun e => hbr e.symm), by rw [hlen, repL_eq _ l hi]; exact hrow, fun c hc => by simpa using h.flt c hc, h.fp, h.fv, fun x hx => ?_, by rw [hlen]; exact h.len, h.cap⟩, hkF, hgl, h.row.frozenAt _, hcell⟩
  obtain ⟨y, hy, e1⟩ := hmem x hx
  rw [e1]
  exact (h.node y hy).agree (hk.agree fun c hc => ⟨h.flt c hc.1, fun e => hc.2.2 (by rw [e]; rfl)⟩)

set_option maxRecDepth 100000 in
set_option maxHeartbeats 16000000 in
theorem pinR_ok (h : Rf w rp F room f m v l) (rk : Nat) (rg ro rn : Int) (hp : ∀ x ∈ l, x.p < 4611686018427387904) :
    Calls Try.prog 39 #[.pointer (some ⟨rp, 0, none⟩), .agg #[.int .u64 (rk : Int), .int .i64 rg, .int .i64 ro, .int .i64 rn]] w (RPost w rp F room f m (pinP (l.map H.ph) ⟨rk, rg, ro, rn⟩)) := by
  have HP := vers.lay hp
  have hlen := h.len
  have hcap := h.cap
  clear hp
  have bA : Below w.heap.size w (w.alloc (.cells #[.int .u64 (rk : Int), .int .i64 rg, .int .i64 ro, .int .i64 rn] 27)) := (Below.refl _ _).alloc (Nat.le_refl _) _
  have k1 := Blk.new w 27 #[.int .u64 (rk : Int), .int .i64 rg, .int .i64 ro, .int .i64 rn]
  have HH := vers.lay h
  clear h
  go_enter Try.func39, Try.ntmps39
  go_upto_region 1 with (fail)
  generalize hWq : w.alloc (.cells #[.int .u64 (rk : Int), .int .i64 rg, .int .i64 ro, .int .i64 rn] 27) = W at *
  obtain ⟨q1, hq1e⟩ : ∃ q1, w.heap.size = q1 := ⟨_, rfl⟩
  have HQ := vers.lay hq1e
  rw [hq1e] at k1 ⊢
  clear hWq hq1e
  have H0 := vers.lay (HH.out.below bA)
  have hf := atR_ok H0.out rk rg ro rn
  obtain ⟨b0, b1, b2, b3⟩ : W.cell? ⟨q1, 0, none⟩ = _ ∧ W.cell? ⟨q1, 1, none⟩ = _ ∧ W.cell? ⟨q1, 2, none⟩ = _ ∧ W.cell? ⟨q1, 3, none⟩ = _ := ⟨k1.cell 0, k1.cell 1, k1.cell 2, k1.cell 3⟩
  simp only [List.getElem?_toArray, List.getElem?_cons_zero, List.getElem?_cons_succ] at b0 b1 b2 b3
  have hq1l := k1.lt
  have BA := vers.lay bA
  clear bA k1
  cases hat : atR (l.map H.ph) ⟨rk, rg, ro, rn⟩ with
  | none =>
    have hE := vers.lay (show (3, l.map H.ph) = pinP (l.map H.ph) ⟨rk, rg, ro, rn⟩ by unfold pinP; rw [hat])
    rw [hat] at hf
    have d1 : oi (none : Option Nat) = (-1 : Int) := rfl
    rw [d1] at hf
    clear d1 hat
    go_wp2_with (go_at_call 115; refine hf.mono ?_; rintro e1 w1 ⟨rfl, hb1⟩)
    go_ret
    exact ⟨3, v, l, F, rfl, hE.out, H0.out.below hb1, Keep.of_below (BA.out.trans (hb1.mono BA.out.size)), fun b hb => .inl hb⟩
  | some i =>
    have hi : i < l.length := by obtain ⟨h, _⟩ := atR_lt hat; simpa using h
    have HAT := vers.lay hat
    rw [hat] at hf
    have d1 : oi (some i) = (i : Int) := rfl
    rw [d1] at hf
    have i1 : (0 : Int) ≤ (i : Int) := by omega
    have i0 : decide ((i : Int) < 0) = false := decide_eq_false (by omega)
    have i2 : (i : Int) < (l.length : Int) := by omega
    have hpi := HP.out _ (List.getElem_mem hi)
    have HPA := vers.lay (pinsAt_map l hi)
    have HPM := vers.lay (fun k => pins_map k l hi)
    have HI := vers.lay hi
    clear d1 hat
    go_upto_region 4 with (go_at_call 115; refine hf.mono ?_; rintro e1 w1 ⟨rfl, hb1⟩)
    have BA1 := vers.lay (BA.out.trans (hb1.mono BA.out.size))
    have hR1 := H0.out.below hb1
    obtain ⟨A, c, hv, _⟩ := hR1.slice
    subst hv
    obtain ⟨g, cap, e, _, _, _⟩ := own_slice_form hR1.row (by omega)
    injection e with e1 _ e2
    subst e1 e2
    obtain ⟨_, _, _, hbl, _, y7⟩ := Rf.pin hR1 hi 0 rfl
    obtain ⟨hrpl, _, x1, _, _⟩ := hR1.head
    have HR1 := vers.lay hR1
    rw [Nat.zero_add] at y7
    obtain ⟨pn, hpn⟩ : ∃ pn, (l[i]'hi).p = pn := ⟨_, rfl⟩
    rw [hpn] at y7 hpi HPA
    generalize g = b at *
    clear hf b0 b1 b2 b3 hq1l hb1 hpn hi hR1
    have hS0 : Below w1.heap.size w1 w1.drew := (Below.refl _ _).drew
    have ew : IntKind.i64.wrap ((pn : Int) + 1) = ((pn + 1 : Nat) : Int) := by rw [IntWalk.i64_in _ (by omega)]; rfl
    have HE := vers.lay (show (0, (repL (H.pins (pn + 1)) l i).map H.ph) = pinP (l.map H.ph) ⟨rk, rg, ro, rn⟩ by unfold pinP; rw [HAT.out]; dsimp only; rw [HPA.out, HPM.out])
    refine mix.region_D (fun w' => Below w1.heap.size w1 w') (fun j => j == 16) (by kernel_rfl) ?_
    generalize w1.drew = Wd at *
    refine mix.D_takeT (i := 0) (v := ?_) rfl (by kernel_rfl) (by kernel_rfl) (fun _ _ _ h => h) (Or.inl ⟨by first | rfl | simp [Region.wanted, yielded], ?_⟩) hS0 ?_
    rotate_left
    · intro w' hSw
      have z1 := (hSw.cell (p := ⟨rp, 1, none⟩) hrpl).trans x1
      have z7 := (hSw.cell (p := ⟨b, i * 8 + 7, none⟩) hbl).trans y7
      try simp only [List.getElem_toArray, List.getElem_cons_zero, List.getElem_cons_succ]
      go_simp
      exact rfl
    try simp only [Act.put, List.setIfInBounds_toArray, List.set_cons_zero, List.set_cons_succ, List.getElem_toArray, List.getElem_cons_zero, List.getElem_cons_succ]
    refine mix.D_takeT (i := 1) (v := ?_) rfl (by kernel_rfl) (by kernel_rfl) (fun _ _ _ h => h) (Or.inl ⟨by first | rfl | simp [Region.wanted, yielded], ?_⟩) hS0 ?_
    rotate_left
    · intro w' hSw
      have z1 := (hSw.cell (p := ⟨rp, 1, none⟩) hrpl).trans x1
      have z7 := (hSw.cell (p := ⟨b, i * 8 + 7, none⟩) hbl).trans y7
      try simp only [List.getElem_toArray, List.getElem_cons_zero, List.getElem_cons_succ]
      go_simp
      exact rfl
    try simp only [Act.put, List.setIfInBounds_toArray, List.set_cons_zero, List.set_cons_succ, List.getElem_toArray, List.getElem_cons_zero, List.getElem_cons_succ]
    refine mix.D_takeT (i := 2) (v := ?_) rfl (by kernel_rfl) (by kernel_rfl) (fun _ _ _ h => h) (Or.inl ⟨by first | rfl | simp [Region.wanted, yielded], ?_⟩) hS0 ?_
    rotate_left
    · intro w' hSw
      have z1 := (hSw.cell (p := ⟨rp, 1, none⟩) hrpl).trans x1
      have z7 := (hSw.cell (p := ⟨b, i * 8 + 7, none⟩) hbl).trans y7
      try simp only [List.getElem_toArray, List.getElem_cons_zero, List.getElem_cons_succ]
      go_simp
      exact rfl
    try simp only [Act.put, List.setIfInBounds_toArray, List.set_cons_zero, List.set_cons_succ, List.getElem_toArray, List.getElem_cons_zero, List.getElem_cons_succ]
    refine mix.D_takeT (i := 3) (v := ?_) rfl (by kernel_rfl) (by kernel_rfl) (fun _ _ _ h => h) (Or.inl ⟨by first | rfl | simp [Region.wanted, yielded], ?_⟩) hS0 ?_
    rotate_left
    · intro w' hSw
      have z1 := (hSw.cell (p := ⟨rp, 1, none⟩) hrpl).trans x1
      have z7 := (hSw.cell (p := ⟨b, i * 8 + 7, none⟩) hbl).trans y7
      try simp only [List.getElem_toArray, List.getElem_cons_zero, List.getElem_cons_succ]
      go_simp
      exact rfl
    try simp only [Act.put, List.setIfInBounds_toArray, List.set_cons_zero, List.set_cons_succ, List.getElem_toArray, List.getElem_cons_zero, List.getElem_cons_succ]
    refine mix.D_takeT (i := 4) (v := ?_) rfl (by kernel_rfl) (by kernel_rfl) (fun _ _ _ h => h) (Or.inl ⟨by first | rfl | simp [Region.wanted, yielded], ?_⟩) hS0 ?_
    rotate_left
    · intro w' hSw
      have z1 := (hSw.cell (p := ⟨rp, 1, none⟩) hrpl).trans x1
      have z7 := (hSw.cell (p := ⟨b, i * 8 + 7, none⟩) hbl).trans y7
      try simp only [List.getElem_toArray, List.getElem_cons_zero, List.getElem_cons_succ]
      go_simp
      exact rfl
    try simp only [Act.put, List.setIfInBounds_toArray, List.set_cons_zero, List.set_cons_succ, List.getElem_toArray, List.getElem_cons_zero, List.getElem_cons_succ]
    refine mix.D_takeT (i := 5) (v := ?_) rfl (by kernel_rfl) (by kernel_rfl) (fun _ _ _ h => h) (Or.inl ⟨by first | rfl | simp [Region.wanted, yielded], ?_⟩) hS0 ?_
    rotate_left
    · intro w' hSw
      have z1 := (hSw.cell (p := ⟨rp, 1, none⟩) hrpl).trans x1
      have z7 := (hSw.cell (p := ⟨b, i * 8 + 7, none⟩) hbl).trans y7
      try simp only [List.getElem_toArray, List.getElem_cons_zero, List.getElem_cons_succ]
      go_simp
      exact rfl
    try simp only [Act.put, List.setIfInBounds_toArray, List.set_cons_zero, List.set_cons_succ, List.getElem_toArray, List.getElem_cons_zero, List.getElem_cons_succ]
    refine mix.D_takeT (i := 6) (v := ?_) rfl (by kernel_rfl) (by kernel_rfl) (fun _ _ _ h => h) (Or.inl ⟨by first | rfl | simp [Region.wanted, yielded], ?_⟩) hS0 ?_
    rotate_left
    · intro w' hSw
      have z1 := (hSw.cell (p := ⟨rp, 1, none⟩) hrpl).trans x1
      have z7 := (hSw.cell (p := ⟨b, i * 8 + 7, none⟩) hbl).trans y7
      try simp only [List.getElem_toArray, List.getElem_cons_zero, List.getElem_cons_succ]
      go_simp
      exact rfl
    try simp only [Act.put, List.setIfInBounds_toArray, List.set_cons_zero, List.set_cons_succ, List.getElem_toArray, List.getElem_cons_zero, List.getElem_cons_succ]
    refine mix.D_takeT (i := 7) (v := ?_) rfl (by kernel_rfl) (by kernel_rfl) (fun _ _ _ h => h) (Or.inl ⟨by first | rfl | simp [Region.wanted, yielded], ?_⟩) hS0 ?_
    rotate_left
    · intro w' hSw
      have z1 := (hSw.cell (p := ⟨rp, 1, none⟩) hrpl).trans x1
      have z7 := (hSw.cell (p := ⟨b, i * 8 + 7, none⟩) hbl).trans y7
      try simp only [List.getElem_toArray, List.getElem_cons_zero, List.getElem_cons_succ]
      go_simp
      exact rfl
    try simp only [Act.put, List.setIfInBounds_toArray, List.set_cons_zero, List.set_cons_succ, List.getElem_toArray, List.getElem_cons_zero, List.getElem_cons_succ]
    refine mix.D_takeT (i := 8) (v := ?_) rfl (by kernel_rfl) (by kernel_rfl) (fun _ _ _ h => h) (Or.inl ⟨by first | rfl | simp [Region.wanted, yielded], ?_⟩) hS0 ?_
    rotate_left
    · intro w' hSw
      have z1 := (hSw.cell (p := ⟨rp, 1, none⟩) hrpl).trans x1
      have z7 := (hSw.cell (p := ⟨b, i * 8 + 7, none⟩) hbl).trans y7
      try simp only [List.getElem_toArray, List.getElem_cons_zero, List.getElem_cons_succ]
      go_simp
      exact rfl
    try simp only [Act.put, List.setIfInBounds_toArray, List.set_cons_zero, List.set_cons_succ, List.getElem_toArray, List.getElem_cons_zero, List.getElem_cons_succ]
    refine mix.D_takeT (i := 9) (v := ?_) rfl (by kernel_rfl) (by kernel_rfl) (fun _ _ _ h => h) (Or.inl ⟨by first | rfl | simp [Region.wanted, yielded], ?_⟩) hS0 ?_
    rotate_left
    · intro w' hSw
      have z1 := (hSw.cell (p := ⟨rp, 1, none⟩) hrpl).trans x1
      have z7 := (hSw.cell (p := ⟨b, i * 8 + 7, none⟩) hbl).trans y7
      try simp only [List.getElem_toArray, List.getElem_cons_zero, List.getElem_cons_succ]
      go_simp
      exact rfl
    try simp only [Act.put, List.setIfInBounds_toArray, List.set_cons_zero, List.set_cons_succ, List.getElem_toArray, List.getElem_cons_zero, List.getElem_cons_succ]
    refine mix.D_takeT (i := 10) (v := ?_) rfl (by kernel_rfl) (by kernel_rfl) (fun _ _ _ h => h) (Or.inl ⟨by first | rfl | simp [Region.wanted, yielded], ?_⟩) hS0 ?_
    rotate_left
    · intro w' hSw
      have z1 := (hSw.cell (p := ⟨rp, 1, none⟩) hrpl).trans x1
      have z7 := (hSw.cell (p := ⟨b, i * 8 + 7, none⟩) hbl).trans y7
      try simp only [List.getElem_toArray, List.getElem_cons_zero, List.getElem_cons_succ]
      go_simp
      exact rfl
    try simp only [Act.put, List.setIfInBounds_toArray, List.set_cons_zero, List.set_cons_succ, List.getElem_toArray, List.getElem_cons_zero, List.getElem_cons_succ]
    refine mix.D_takeT (i := 11) (v := ?_) rfl (by kernel_rfl) (by kernel_rfl) (fun _ _ _ h => h) (Or.inl ⟨by first | rfl | simp [Region.wanted, yielded], ?_⟩) hS0 ?_
    rotate_left
    · intro w' hSw
      have z1 := (hSw.cell (p := ⟨rp, 1, none⟩) hrpl).trans x1
      have z7 := (hSw.cell (p := ⟨b, i * 8 + 7, none⟩) hbl).trans y7
      try simp only [List.getElem_toArray, List.getElem_cons_zero, List.getElem_cons_succ]
      go_simp
      exact rfl
    try simp only [Act.put, List.setIfInBounds_toArray, List.set_cons_zero, List.set_cons_succ, List.getElem_toArray, List.getElem_cons_zero, List.getElem_cons_succ]
    refine mix.D_takeT (i := 12) (v := ?_) rfl (by kernel_rfl) (by kernel_rfl) (fun _ _ _ h => h) (Or.inl ⟨by first | rfl | simp [Region.wanted, yielded], ?_⟩) hS0 ?_
    rotate_left
    · intro w' hSw
      have z1 := (hSw.cell (p := ⟨rp, 1, none⟩) hrpl).trans x1
      have z7 := (hSw.cell (p := ⟨b, i * 8 + 7, none⟩) hbl).trans y7
      try simp only [List.getElem_toArray, List.getElem_cons_zero, List.getElem_cons_succ]
      go_simp
      exact rfl
    try simp only [Act.put, List.setIfInBounds_toArray, List.set_cons_zero, List.set_cons_succ, List.getElem_toArray, List.getElem_cons_zero, List.getElem_cons_succ]
    refine mix.D_takeT (i := 13) (v := ?_) rfl (by kernel_rfl) (by kernel_rfl) (fun _ _ _ h => h) (Or.inl ⟨by first | rfl | simp [Region.wanted, yielded], ?_⟩) hS0 ?_
    rotate_left
    · intro w' hSw
      have z1 := (hSw.cell (p := ⟨rp, 1, none⟩) hrpl).trans x1
      have z7 := (hSw.cell (p := ⟨b, i * 8 + 7, none⟩) hbl).trans y7
      try simp only [List.getElem_toArray, List.getElem_cons_zero, List.getElem_cons_succ]
      go_simp
      exact rfl
    try simp only [Act.put, List.setIfInBounds_toArray, List.set_cons_zero, List.set_cons_succ, List.getElem_toArray, List.getElem_cons_zero, List.getElem_cons_succ]
    refine mix.D_takeT (i := 14) (v := ?_) rfl (by kernel_rfl) (by kernel_rfl) (fun _ _ _ h => h) (Or.inl ⟨by first | rfl | simp [Region.wanted, yielded], ?_⟩) hS0 ?_
    rotate_left
    · intro w' hSw
      have z1 := (hSw.cell (p := ⟨rp, 1, none⟩) hrpl).trans x1
      have z7 := (hSw.cell (p := ⟨b, i * 8 + 7, none⟩) hbl).trans y7
      try simp only [List.getElem_toArray, List.getElem_cons_zero, List.getElem_cons_succ]
      go_simp
      exact rfl
    try simp only [Act.put, List.setIfInBounds_toArray, List.set_cons_zero, List.set_cons_succ, List.getElem_toArray, List.getElem_cons_zero, List.getElem_cons_succ]
    refine mix.D_takeT (i := 15) (v := ?_) rfl (by kernel_rfl) (by kernel_rfl) (fun _ _ _ h => h) (Or.inl ⟨by first | rfl | simp [Region.wanted, yielded], ?_⟩) hS0 ?_
    rotate_left
    · intro w' hSw
      have z1 := (hSw.cell (p := ⟨rp, 1, none⟩) hrpl).trans x1
      have z7 := (hSw.cell (p := ⟨b, i * 8 + 7, none⟩) hbl).trans y7
      try simp only [List.getElem_toArray, List.getElem_cons_zero, List.getElem_cons_succ]
      go_simp
      exact rfl
    try simp only [Act.put, List.setIfInBounds_toArray, List.set_cons_zero, List.set_cons_succ, List.getElem_toArray, List.getElem_cons_zero, List.getElem_cons_succ]
    refine mix.D_op (k := 16) rfl rfl (by kernel_rfl) (fun K' hK => ?_)
    simp only [List.getElem_toArray, List.getElem_cons_zero, List.getElem_cons_succ]
    obtain ⟨_, cp, kp, _, fz, y8⟩ := Rf.pin (HR1.out.below hS0) HI.out (pn + 1) rfl
    simp only [Nat.zero_add] at cp kp fz y8
    have HCP := vers.lay cp
    have HKP := vers.lay kp
    clear cp kp
    have hbl2 := Nat.lt_of_lt_of_le hbl hS0.size
    go_wp2_with fail
    refine hK.out _ _ (fun h => by simp at h) ?_
    clear hK K'
    try simp only [Act.put, List.setIfInBounds_toArray, List.set_cons_zero, List.set_cons_succ]
    refine mix.D_done (by kernel_rfl) ?_ _
    try simp only [Act.put, List.setIfInBounds_toArray, List.set_cons_zero, List.set_cons_succ, List.getElem_toArray, List.getElem_cons_zero, List.getElem_cons_succ]
    go_wp2_with fail
    go_ret
    exact ⟨0, _, repL (H.pins (pn + 1)) l i, F, rfl, HE.out, HCP.out, Keep.trans (S := F) (Keep.of_below (BA1.out.trans (hS0.mono BA1.out.size))) HKP.out fun _ h _ => h, fun b hb => .inl hb⟩

set_option maxRecDepth 100000 in
set_option maxHeartbeats 16000000 in
theorem unpinR_ok (h : Rf w rp F room f m v l) (rk : Nat) (rg ro rn : Int) (hp : ∀ x ∈ l, x.p < 4611686018427387904) :
    Calls Try.prog 41 #[.pointer (some ⟨rp, 0, none⟩), .agg #[.int .u64 (rk : Int), .int .i64 rg, .int .i64 ro, .int .i64 rn]] w (RPost w rp F room f m (unpinP (l.map H.ph) ⟨rk, rg, ro, rn⟩)) := by
  have HP := vers.lay hp
  have hlen := h.len
  have hcap := h.cap
  clear hp
  have bA : Below w.heap.size w (w.alloc (.cells #[.int .u64 (rk : Int), .int .i64 rg, .int .i64 ro, .int .i64 rn] 27)) := (Below.refl _ _).alloc (Nat.le_refl _) _
  have k1 := Blk.new w 27 #[.int .u64 (rk : Int), .int .i64 rg, .int .i64 ro, .int .i64 rn]
  have HH := vers.lay h
  clear h
  go_enter Try.func41, Try.ntmps41
  go_upto_region 1 with (fail)
  generalize hWq : w.alloc (.cells #[.int .u64 (rk : Int), .int .i64 rg, .int .i64 ro, .int .i64 rn] 27) = W at *
  obtain ⟨q1, hq1e⟩ : ∃ q1, w.heap.size = q1 := ⟨_, rfl⟩
  have HQ := vers.lay hq1e
  rw [hq1e] at k1 ⊢
  clear hWq hq1e
  have H0 := vers.lay (HH.out.below bA)
  have hf := atR_ok H0.out rk rg ro rn
  obtain ⟨b0, b1, b2, b3⟩ : W.cell? ⟨q1, 0, none⟩ = _ ∧ W.cell? ⟨q1, 1, none⟩ = _ ∧ W.cell? ⟨q1, 2, none⟩ = _ ∧ W.cell? ⟨q1, 3, none⟩ = _ := ⟨k1.cell 0, k1.cell 1, k1.cell 2, k1.cell 3⟩
  simp only [List.getElem?_toArray, List.getElem?_cons_zero, List.getElem?_cons_succ] at b0 b1 b2 b3
  have hq1l := k1.lt
  have BA := vers.lay bA
  clear bA k1
  cases hat : atR (l.map H.ph) ⟨rk, rg, ro, rn⟩ with
  | none =>
    have hE := vers.lay (show (3, l.map H.ph) = unpinP (l.map H.ph) ⟨rk, rg, ro, rn⟩ by unfold unpinP; rw [hat])
    rw [hat] at hf
    have d1 : oi (none : Option Nat) = (-1 : Int) := rfl
    rw [d1] at hf
    clear d1 hat
    go_wp2_with (go_at_call 115; refine hf.mono ?_; rintro e1 w1 ⟨rfl, hb1⟩)
    go_ret
    exact ⟨3, v, l, F, rfl, hE.out, H0.out.below hb1, Keep.of_below (BA.out.trans (hb1.mono BA.out.size)), fun b hb => .inl hb⟩
  | some i =>
    have hi : i < l.length := by obtain ⟨h, _⟩ := atR_lt hat; simpa using h
    have HAT := vers.lay hat
    rw [hat] at hf
    have d1 : oi (some i) = (i : Int) := rfl
    rw [d1] at hf
    have i1 : (0 : Int) ≤ (i : Int) := by omega
    have i0 : decide ((i : Int) < 0) = false := decide_eq_false (by omega)
    have i2 : (i : Int) < (l.length : Int) := by omega
    have hpi := HP.out _ (List.getElem_mem hi)
    have HPA := vers.lay (pinsAt_map l hi)
    have HPM := vers.lay (fun k => pins_map k l hi)
    have HI := vers.lay hi
    clear d1 hat
    go_upto_region 4 with (go_at_call 115; refine hf.mono ?_; rintro e1 w1 ⟨rfl, hb1⟩)
    have BA1 := vers.lay (BA.out.trans (hb1.mono BA.out.size))
    have hR1 := H0.out.below hb1
    obtain ⟨A, c, hv, _⟩ := hR1.slice
    subst hv
    obtain ⟨g, cap, e, _, _, _⟩ := own_slice_form hR1.row (by omega)
    injection e with e1 _ e2
    subst e1 e2
    obtain ⟨_, _, _, hbl, _, y7⟩ := Rf.pin hR1 hi 0 rfl
    obtain ⟨hrpl, _, x1, _, _⟩ := hR1.head
    have HR1 := vers.lay hR1
    rw [Nat.zero_add] at y7
    obtain ⟨pn, hpn⟩ : ∃ pn, (l[i]'hi).p = pn := ⟨_, rfl⟩
    rw [hpn] at y7 hpi HPA
    generalize g = b at *
    clear hf b0 b1 b2 b3 hq1l hb1 hpn hi hR1
    have hS0 : Below w1.heap.size w1 w1.drew := (Below.refl _ _).drew
    rcases Nat.eq_zero_or_pos pn with h0 | h0
    · subst h0
      have HE := vers.lay (show (150, l.map H.ph) = unpinP (l.map H.ph) ⟨rk, rg, ro, rn⟩ by unfold unpinP; rw [HAT.out]; dsimp only; rw [HPA.out, if_pos rfl])
      go_wp2_with fail
      go_ret
      exact ⟨150, _, l, F, rfl, HE.out, HR1.out, Keep.of_below BA1.out, fun b hb => .inl hb⟩
    · obtain ⟨k, rfl⟩ : ∃ k, pn = k + 1 := ⟨pn - 1, by omega⟩
      have d7 : (((k + 1 : Nat) : Int) == 0) = false := by simp; omega
      have d8 : decide (((k + 1 : Nat) : Int) = 0) = false := decide_eq_false (by omega)
      have d9 : ((k : Int) + 1 == 0) = false := by simp; omega
      have d5 : decide ((k : Int) + 1 = 0) = false := decide_eq_false (by omega)
      have ew : IntKind.i64.wrap (((k + 1 : Nat) : Int) - 1) = (k : Int) := by rw [IntWalk.i64_in _ (by omega)]; omega
      have ew2 : IntKind.i64.wrap ((k : Int) + 1 - 1) = (k : Int) := by rw [IntWalk.i64_in _ (by omega)]; omega
      have ew3 : IntKind.i64.wrap (k : Int) = (k : Int) := IntWalk.i64_in _ (by omega)
      have HE := vers.lay (show (0, (repL (H.pins k) l i).map H.ph) = unpinP (l.map H.ph) ⟨rk, rg, ro, rn⟩ by unfold unpinP; rw [HAT.out]; dsimp only; rw [HPA.out, if_neg (by omega), Nat.add_sub_cancel, HPM.out])
      go_upto_region 6 with (fail)
      refine mix.region_D (fun w' => Below w1.heap.size w1 w') (fun j => j == 16) (by kernel_rfl) ?_
      generalize w1.drew = Wd at *
      refine mix.D_takeT (i := 0) (v := ?_) rfl (by kernel_rfl) (by kernel_rfl) (fun _ _ _ h => h) (Or.inl ⟨by first | rfl | simp [Region.wanted, yielded], ?_⟩) hS0 ?_
      rotate_left
      · intro w' hSw
        have z1 := (hSw.cell (p := ⟨rp, 1, none⟩) hrpl).trans x1
        have z7 := (hSw.cell (p := ⟨b, i * 8 + 7, none⟩) hbl).trans y7
        try simp only [List.getElem_toArray, List.getElem_cons_zero, List.getElem_cons_succ]
        go_simp
        exact rfl
      try simp only [Act.put, List.setIfInBounds_toArray, List.set_cons_zero, List.set_cons_succ, List.getElem_toArray, List.getElem_cons_zero, List.getElem_cons_succ]
      refine mix.D_takeT (i := 1) (v := ?_) rfl (by kernel_rfl) (by kernel_rfl) (fun _ _ _ h => h) (Or.inl ⟨by first | rfl | simp [Region.wanted, yielded], ?_⟩) hS0 ?_
      rotate_left
      · intro w' hSw
        have z1 := (hSw.cell (p := ⟨rp, 1, none⟩) hrpl).trans x1
        have z7 := (hSw.cell (p := ⟨b, i * 8 + 7, none⟩) hbl).trans y7
        try simp only [List.getElem_toArray, List.getElem_cons_zero, List.getElem_cons_succ]
        go_simp
        exact rfl
      try simp only [Act.put, List.setIfInBounds_toArray, List.set_cons_zero, List.set_cons_succ, List.getElem_toArray, List.getElem_cons_zero, List.getElem_cons_succ]
      refine mix.D_takeT (i := 2) (v := ?_) rfl (by kernel_rfl) (by kernel_rfl) (fun _ _ _ h => h) (Or.inl ⟨by first | rfl | simp [Region.wanted, yielded], ?_⟩) hS0 ?_
      rotate_left
      · intro w' hSw
        have z1 := (hSw.cell (p := ⟨rp, 1, none⟩) hrpl).trans x1
        have z7 := (hSw.cell (p := ⟨b, i * 8 + 7, none⟩) hbl).trans y7
        try simp only [List.getElem_toArray, List.getElem_cons_zero, List.getElem_cons_succ]
        go_simp
        exact rfl
      try simp only [Act.put, List.setIfInBounds_toArray, List.set_cons_zero, List.set_cons_succ, List.getElem_toArray, List.getElem_cons_zero, List.getElem_cons_succ]
      refine mix.D_takeT (i := 3) (v := ?_) rfl (by kernel_rfl) (by kernel_rfl) (fun _ _ _ h => h) (Or.inl ⟨by first | rfl | simp [Region.wanted, yielded], ?_⟩) hS0 ?_
      rotate_left
      · intro w' hSw
        have z1 := (hSw.cell (p := ⟨rp, 1, none⟩) hrpl).trans x1
        have z7 := (hSw.cell (p := ⟨b, i * 8 + 7, none⟩) hbl).trans y7
        try simp only [List.getElem_toArray, List.getElem_cons_zero, List.getElem_cons_succ]
        go_simp
        exact rfl
      try simp only [Act.put, List.setIfInBounds_toArray, List.set_cons_zero, List.set_cons_succ, List.getElem_toArray, List.getElem_cons_zero, List.getElem_cons_succ]
      refine mix.D_takeT (i := 4) (v := ?_) rfl (by kernel_rfl) (by kernel_rfl) (fun _ _ _ h => h) (Or.inl ⟨by first | rfl | simp [Region.wanted, yielded], ?_⟩) hS0 ?_
      rotate_left
      · intro w' hSw
        have z1 := (hSw.cell (p := ⟨rp, 1, none⟩) hrpl).trans x1
        have z7 := (hSw.cell (p := ⟨b, i * 8 + 7, none⟩) hbl).trans y7
        try simp only [List.getElem_toArray, List.getElem_cons_zero, List.getElem_cons_succ]
        go_simp
        exact rfl
      try simp only [Act.put, List.setIfInBounds_toArray, List.set_cons_zero, List.set_cons_succ, List.getElem_toArray, List.getElem_cons_zero, List.getElem_cons_succ]
      refine mix.D_takeT (i := 5) (v := ?_) rfl (by kernel_rfl) (by kernel_rfl) (fun _ _ _ h => h) (Or.inl ⟨by first | rfl | simp [Region.wanted, yielded], ?_⟩) hS0 ?_
      rotate_left
      · intro w' hSw
        have z1 := (hSw.cell (p := ⟨rp, 1, none⟩) hrpl).trans x1
        have z7 := (hSw.cell (p := ⟨b, i * 8 + 7, none⟩) hbl).trans y7
        try simp only [List.getElem_toArray, List.getElem_cons_zero, List.getElem_cons_succ]
        go_simp
        exact rfl
      try simp only [Act.put, List.setIfInBounds_toArray, List.set_cons_zero, List.set_cons_succ, List.getElem_toArray, List.getElem_cons_zero, List.getElem_cons_succ]
      refine mix.D_takeT (i := 6) (v := ?_) rfl (by kernel_rfl) (by kernel_rfl) (fun _ _ _ h => h) (Or.inl ⟨by first | rfl | simp [Region.wanted, yielded], ?_⟩) hS0 ?_
      rotate_left
      · intro w' hSw
        have z1 := (hSw.cell (p := ⟨rp, 1, none⟩) hrpl).trans x1
        have z7 := (hSw.cell (p := ⟨b, i * 8 + 7, none⟩) hbl).trans y7
        try simp only [List.getElem_toArray, List.getElem_cons_zero, List.getElem_cons_succ]
        go_simp
        exact rfl
      try simp only [Act.put, List.setIfInBounds_toArray, List.set_cons_zero, List.set_cons_succ, List.getElem_toArray, List.getElem_cons_zero, List.getElem_cons_succ]
      refine mix.D_takeT (i := 7) (v := ?_) rfl (by kernel_rfl) (by kernel_rfl) (fun _ _ _ h => h) (Or.inl ⟨by first | rfl | simp [Region.wanted, yielded], ?_⟩) hS0 ?_
      rotate_left
      · intro w' hSw
        have z1 := (hSw.cell (p := ⟨rp, 1, none⟩) hrpl).trans x1
        have z7 := (hSw.cell (p := ⟨b, i * 8 + 7, none⟩) hbl).trans y7
        try simp only [List.getElem_toArray, List.getElem_cons_zero, List.getElem_cons_succ]
        go_simp
        exact rfl
      try simp only [Act.put, List.setIfInBounds_toArray, List.set_cons_zero, List.set_cons_succ, List.getElem_toArray, List.getElem_cons_zero, List.getElem_cons_succ]
      refine mix.D_takeT (i := 8) (v := ?_) rfl (by kernel_rfl) (by kernel_rfl) (fun _ _ _ h => h) (Or.inl ⟨by first | rfl | simp [Region.wanted, yielded], ?_⟩) hS0 ?_
      rotate_left
      · intro w' hSw
        have z1 := (hSw.cell (p := ⟨rp, 1, none⟩) hrpl).trans x1
        have z7 := (hSw.cell (p := ⟨b, i * 8 + 7, none⟩) hbl).trans y7
        try simp only [List.getElem_toArray, List.getElem_cons_zero, List.getElem_cons_succ]
        go_simp
        exact rfl
      try simp only [Act.put, List.setIfInBounds_toArray, List.set_cons_zero, List.set_cons_succ, List.getElem_toArray, List.getElem_cons_zero, List.getElem_cons_succ]
      refine mix.D_takeT (i := 9) (v := ?_) rfl (by kernel_rfl) (by kernel_rfl) (fun _ _ _ h => h) (Or.inl ⟨by first | rfl | simp [Region.wanted, yielded], ?_⟩) hS0 ?_
      rotate_left
      · intro w' hSw
        have z1 := (hSw.cell (p := ⟨rp, 1, none⟩) hrpl).trans x1
        have z7 := (hSw.cell (p := ⟨b, i * 8 + 7, none⟩) hbl).trans y7
        try simp only [List.getElem_toArray, List.getElem_cons_zero, List.getElem_cons_succ]
        go_simp
        exact rfl
      try simp only [Act.put, List.setIfInBounds_toArray, List.set_cons_zero, List.set_cons_succ, List.getElem_toArray, List.getElem_cons_zero, List.getElem_cons_succ]
      refine mix.D_takeT (i := 10) (v := ?_) rfl (by kernel_rfl) (by kernel_rfl) (fun _ _ _ h => h) (Or.inl ⟨by first | rfl | simp [Region.wanted, yielded], ?_⟩) hS0 ?_
      rotate_left
      · intro w' hSw
        have z1 := (hSw.cell (p := ⟨rp, 1, none⟩) hrpl).trans x1
        have z7 := (hSw.cell (p := ⟨b, i * 8 + 7, none⟩) hbl).trans y7
        try simp only [List.getElem_toArray, List.getElem_cons_zero, List.getElem_cons_succ]
        go_simp
        exact rfl
      try simp only [Act.put, List.setIfInBounds_toArray, List.set_cons_zero, List.set_cons_succ, List.getElem_toArray, List.getElem_cons_zero, List.getElem_cons_succ]
      refine mix.D_takeT (i := 11) (v := ?_) rfl (by kernel_rfl) (by kernel_rfl) (fun _ _ _ h => h) (Or.inl ⟨by first | rfl | simp [Region.wanted, yielded], ?_⟩) hS0 ?_
      rotate_left
      · intro w' hSw
        have z1 := (hSw.cell (p := ⟨rp, 1, none⟩) hrpl).trans x1
        have z7 := (hSw.cell (p := ⟨b, i * 8 + 7, none⟩) hbl).trans y7
        try simp only [List.getElem_toArray, List.getElem_cons_zero, List.getElem_cons_succ]
        go_simp
        exact rfl
      try simp only [Act.put, List.setIfInBounds_toArray, List.set_cons_zero, List.set_cons_succ, List.getElem_toArray, List.getElem_cons_zero, List.getElem_cons_succ]
      refine mix.D_takeT (i := 12) (v := ?_) rfl (by kernel_rfl) (by kernel_rfl) (fun _ _ _ h => h) (Or.inl ⟨by first | rfl | simp [Region.wanted, yielded], ?_⟩) hS0 ?_
      rotate_left
      · intro w' hSw
        have z1 := (hSw.cell (p := ⟨rp, 1, none⟩) hrpl).trans x1
        have z7 := (hSw.cell (p := ⟨b, i * 8 + 7, none⟩) hbl).trans y7
        try simp only [List.getElem_toArray, List.getElem_cons_zero, List.getElem_cons_succ]
        go_simp
        exact rfl
      try simp only [Act.put, List.setIfInBounds_toArray, List.set_cons_zero, List.set_cons_succ, List.getElem_toArray, List.getElem_cons_zero, List.getElem_cons_succ]
      refine mix.D_takeT (i := 13) (v := ?_) rfl (by kernel_rfl) (by kernel_rfl) (fun _ _ _ h => h) (Or.inl ⟨by first | rfl | simp [Region.wanted, yielded], ?_⟩) hS0 ?_
      rotate_left
      · intro w' hSw
        have z1 := (hSw.cell (p := ⟨rp, 1, none⟩) hrpl).trans x1
        have z7 := (hSw.cell (p := ⟨b, i * 8 + 7, none⟩) hbl).trans y7
        try simp only [List.getElem_toArray, List.getElem_cons_zero, List.getElem_cons_succ]
        go_simp
        exact rfl
      try simp only [Act.put, List.setIfInBounds_toArray, List.set_cons_zero, List.set_cons_succ, List.getElem_toArray, List.getElem_cons_zero, List.getElem_cons_succ]
      refine mix.D_takeT (i := 14) (v := ?_) rfl (by kernel_rfl) (by kernel_rfl) (fun _ _ _ h => h) (Or.inl ⟨by first | rfl | simp [Region.wanted, yielded], ?_⟩) hS0 ?_
      rotate_left
      · intro w' hSw
        have z1 := (hSw.cell (p := ⟨rp, 1, none⟩) hrpl).trans x1
        have z7 := (hSw.cell (p := ⟨b, i * 8 + 7, none⟩) hbl).trans y7
        try simp only [List.getElem_toArray, List.getElem_cons_zero, List.getElem_cons_succ]
        go_simp
        exact rfl
      try simp only [Act.put, List.setIfInBounds_toArray, List.set_cons_zero, List.set_cons_succ, List.getElem_toArray, List.getElem_cons_zero, List.getElem_cons_succ]
      refine mix.D_takeT (i := 15) (v := ?_) rfl (by kernel_rfl) (by kernel_rfl) (fun _ _ _ h => h) (Or.inl ⟨by first | rfl | simp [Region.wanted, yielded], ?_⟩) hS0 ?_
      rotate_left
      · intro w' hSw
        have z1 := (hSw.cell (p := ⟨rp, 1, none⟩) hrpl).trans x1
        have z7 := (hSw.cell (p := ⟨b, i * 8 + 7, none⟩) hbl).trans y7
        try simp only [List.getElem_toArray, List.getElem_cons_zero, List.getElem_cons_succ]
        go_simp
        exact rfl
      try simp only [Act.put, List.setIfInBounds_toArray, List.set_cons_zero, List.set_cons_succ, List.getElem_toArray, List.getElem_cons_zero, List.getElem_cons_succ]
      refine mix.D_op (k := 16) rfl rfl (by kernel_rfl) (fun K' hK => ?_)
      simp only [List.getElem_toArray, List.getElem_cons_zero, List.getElem_cons_succ]
      obtain ⟨_, cp, kp, _, fz, y8⟩ := Rf.pin (HR1.out.below hS0) HI.out (k) rfl
      simp only [Nat.zero_add] at cp kp fz y8
      have HCP := vers.lay cp
      have HKP := vers.lay kp
      clear cp kp
      have hbl2 := Nat.lt_of_lt_of_le hbl hS0.size
      go_wp2_with fail
      refine hK.out _ _ (fun h => by simp at h) ?_
      clear hK K'
      try simp only [Act.put, List.setIfInBounds_toArray, List.set_cons_zero, List.set_cons_succ]
      refine mix.D_done (by kernel_rfl) ?_ _
      try simp only [Act.put, List.setIfInBounds_toArray, List.set_cons_zero, List.set_cons_succ, List.getElem_toArray, List.getElem_cons_zero, List.getElem_cons_succ]
      go_wp2_with fail
      go_ret
      exact ⟨0, _, repL (H.pins (k)) l i, F, rfl, HE.out, HCP.out, Keep.trans (S := F) (Keep.of_below (BA1.out.trans (hS0.mono BA1.out.size))) HKP.out fun _ h _ => h, fun b hb => .inl hb⟩

end
end Go.Proofs.Ytoenkkbcpafanaa.caches
