/- sameInts, tells and step of cell's laws. -/
import Derived.Test.YtnndohdiiglgmaaCeD
import Derived.Test.YtnndohdiiglgmaaCeO
import Derived.Test.YtnndohdiiglgmaaMixG


namespace Go.Proofs.Ytnndohdiiglgmaa.cells
set_option linter.unusedVariables false
set_option linter.unusedSimpArgs false
open Go.RowKit Go.Proofs.Ytnndohdiiglgmaa.base Go.Proofs.Ytnndohdiiglgmaa.powers Go.Lib

set_option maxRecDepth 100000 in
set_option maxHeartbeats 4000000 in
theorem sameInts_ok (l : List Int) (A1 A2 : Option Addr) (c1 c2 : Nat) (B : Nat) (w : World) (h1 : Rd w B A1 (l.map (Value.int .i64))) (h2 : Rd w B A2 (l.map (Value.int .i64))) (hB : B ≤ w.heap.size) (hl : l.length ≤ 1000) :
    Calls Try.prog 38 #[.slice A1 l.length c1, .slice A2 l.length c2] w fun e w' => e = .returned (.bool true) ∧ St none_ w w' := by
  go_enter Try.func38, Try.ntmps38
  go_wp2_with fail
  go_loopw [5] (fun i wr => ∃ j : Nat, i = .int .i64 (j : Int) ∧ j ≤ l.length ∧ St none_ w wr) (fun i _ => l.length - (RowKit.intOf i).toNat)
  case atStart => exact ⟨0, rfl, Nat.zero_le _, St.refl _ _⟩
  case round =>
    obtain ⟨j, rfl, hj, hs⟩ := hrel
    have hb : Below w.heap.size w wr := ⟨hs.os, hs.tape, hs.output, hs.size, fun k hk => hs.block k hk (fun h => h)⟩
    by_cases hlt : j < l.length
    · obtain ⟨b1, o1, e1, hb1, x1⟩ := h1.at_ (k := j) (by rw [List.length_map]; exact hlt)
      obtain ⟨b2, o2, e2, hb2, x2⟩ := h2.at_ (k := j) (by rw [List.length_map]; exact hlt)
      rw [List.getElem_map] at x1 x2
      have y1 := (hb.cell (p := ⟨b1, o1 + j, none⟩) (Nat.lt_of_lt_of_le hb1 hB)).trans x1
      have y2 := (hb.cell (p := ⟨b2, o2 + j, none⟩) (Nat.lt_of_lt_of_le hb2 hB)).trans x2
      have l1 : b1 < wr.heap.size := by have := hs.size; omega
      have l2 : b2 < wr.heap.size := by have := hs.size; omega
      generalize l[j] = v at *
      subst e1
      subst e2
      have ej : IntKind.i64.wrap ((j : Int) + 1) = (j : Int) + 1 := IntWalk.i64_in _ (by omega)
      clear x1 x2 h1 h2
      go_upto_region 6 with (fail)
      have hS0 : Below wr.heap.size wr wr.drew := (Below.refl _ _).drew
      refine mix.region_D (fun w' => Below wr.heap.size wr w') (fun _ => false) (by kernel_rfl) ?_
      refine mix.D_take (i := 0) (v := ?_) rfl (by kernel_rfl) (by kernel_rfl) (fun _ _ _ h => h) (Or.inl ⟨by first | rfl | simp [Region.wanted, yielded], ?_⟩) hS0 ?_
      rotate_left
      · intro w' hSw
        have z1 := (hSw.cell (p := ⟨b1, o1 + j, none⟩) l1).trans y1
        have z2 := (hSw.cell (p := ⟨b2, o2 + j, none⟩) l2).trans y2
        try simp only [List.getElem_toArray, List.getElem_cons_zero, List.getElem_cons_succ]
        go_simp
        exact rfl
      try simp only [Act.put, List.setIfInBounds_toArray, List.set_cons_zero, List.set_cons_succ, List.getElem_toArray, List.getElem_cons_zero, List.getElem_cons_succ]
      refine mix.D_take (i := 1) (v := ?_) rfl (by kernel_rfl) (by kernel_rfl) (fun _ _ _ h => h) (Or.inl ⟨by first | rfl | simp [Region.wanted, yielded], ?_⟩) hS0 ?_
      rotate_left
      · intro w' hSw
        have z1 := (hSw.cell (p := ⟨b1, o1 + j, none⟩) l1).trans y1
        have z2 := (hSw.cell (p := ⟨b2, o2 + j, none⟩) l2).trans y2
        try simp only [List.getElem_toArray, List.getElem_cons_zero, List.getElem_cons_succ]
        go_simp
        exact rfl
      try simp only [Act.put, List.setIfInBounds_toArray, List.set_cons_zero, List.set_cons_succ, List.getElem_toArray, List.getElem_cons_zero, List.getElem_cons_succ]
      refine mix.D_take (i := 2) (v := ?_) rfl (by kernel_rfl) (by kernel_rfl) (fun _ _ _ h => h) (Or.inl ⟨by first | rfl | simp [Region.wanted, yielded], ?_⟩) hS0 ?_
      rotate_left
      · intro w' hSw
        have z1 := (hSw.cell (p := ⟨b1, o1 + j, none⟩) l1).trans y1
        have z2 := (hSw.cell (p := ⟨b2, o2 + j, none⟩) l2).trans y2
        try simp only [List.getElem_toArray, List.getElem_cons_zero, List.getElem_cons_succ]
        go_simp
        exact rfl
      try simp only [Act.put, List.setIfInBounds_toArray, List.set_cons_zero, List.set_cons_succ, List.getElem_toArray, List.getElem_cons_zero, List.getElem_cons_succ]
      refine mix.D_take (i := 3) (v := ?_) rfl (by kernel_rfl) (by kernel_rfl) (fun _ _ _ h => h) (Or.inl ⟨by first | rfl | simp [Region.wanted, yielded], ?_⟩) hS0 ?_
      rotate_left
      · intro w' hSw
        have z1 := (hSw.cell (p := ⟨b1, o1 + j, none⟩) l1).trans y1
        have z2 := (hSw.cell (p := ⟨b2, o2 + j, none⟩) l2).trans y2
        try simp only [List.getElem_toArray, List.getElem_cons_zero, List.getElem_cons_succ]
        go_simp
        exact rfl
      try simp only [Act.put, List.setIfInBounds_toArray, List.set_cons_zero, List.set_cons_succ, List.getElem_toArray, List.getElem_cons_zero, List.getElem_cons_succ]
      refine mix.D_take (i := 4) (v := ?_) rfl (by kernel_rfl) (by kernel_rfl) (fun _ _ _ h => h) (Or.inl ⟨by first | rfl | simp [Region.wanted, yielded], ?_⟩) hS0 ?_
      rotate_left
      · intro w' hSw
        have z1 := (hSw.cell (p := ⟨b1, o1 + j, none⟩) l1).trans y1
        have z2 := (hSw.cell (p := ⟨b2, o2 + j, none⟩) l2).trans y2
        try simp only [List.getElem_toArray, List.getElem_cons_zero, List.getElem_cons_succ]
        go_simp
        exact rfl
      try simp only [Act.put, List.setIfInBounds_toArray, List.set_cons_zero, List.set_cons_succ, List.getElem_toArray, List.getElem_cons_zero, List.getElem_cons_succ]
      refine mix.D_take (i := 5) (v := ?_) rfl (by kernel_rfl) (by kernel_rfl) (fun _ _ _ h => h) (Or.inl ⟨by first | rfl | simp [Region.wanted, yielded], ?_⟩) hS0 ?_
      rotate_left
      · intro w' hSw
        have z1 := (hSw.cell (p := ⟨b1, o1 + j, none⟩) l1).trans y1
        have z2 := (hSw.cell (p := ⟨b2, o2 + j, none⟩) l2).trans y2
        try simp only [List.getElem_toArray, List.getElem_cons_zero, List.getElem_cons_succ]
        go_simp
        exact rfl
      try simp only [Act.put, List.setIfInBounds_toArray, List.set_cons_zero, List.set_cons_succ, List.getElem_toArray, List.getElem_cons_zero, List.getElem_cons_succ]
      refine mix.D_take (i := 6) (v := ?_) rfl (by kernel_rfl) (by kernel_rfl) (fun _ _ _ h => h) (Or.inl ⟨by first | rfl | simp [Region.wanted, yielded], ?_⟩) hS0 ?_
      rotate_left
      · intro w' hSw
        have z1 := (hSw.cell (p := ⟨b1, o1 + j, none⟩) l1).trans y1
        have z2 := (hSw.cell (p := ⟨b2, o2 + j, none⟩) l2).trans y2
        try simp only [List.getElem_toArray, List.getElem_cons_zero, List.getElem_cons_succ]
        go_simp
        exact rfl
      try simp only [Act.put, List.setIfInBounds_toArray, List.set_cons_zero, List.set_cons_succ, List.getElem_toArray, List.getElem_cons_zero, List.getElem_cons_succ]
      refine mix.D_take (i := 7) (v := ?_) rfl (by kernel_rfl) (by kernel_rfl) (fun _ _ _ h => h) (Or.inl ⟨by first | rfl | simp [Region.wanted, yielded], ?_⟩) hS0 ?_
      rotate_left
      · intro w' hSw
        have z1 := (hSw.cell (p := ⟨b1, o1 + j, none⟩) l1).trans y1
        have z2 := (hSw.cell (p := ⟨b2, o2 + j, none⟩) l2).trans y2
        try simp only [List.getElem_toArray, List.getElem_cons_zero, List.getElem_cons_succ]
        go_simp
        exact rfl
      try simp only [Act.put, List.setIfInBounds_toArray, List.set_cons_zero, List.set_cons_succ, List.getElem_toArray, List.getElem_cons_zero, List.getElem_cons_succ]
      refine mix.D_take (i := 8) (v := ?_) rfl (by kernel_rfl) (by kernel_rfl) (fun _ _ _ h => h) (Or.inl ⟨by first | rfl | simp [Region.wanted, yielded], ?_⟩) hS0 ?_
      rotate_left
      · intro w' hSw
        have z1 := (hSw.cell (p := ⟨b1, o1 + j, none⟩) l1).trans y1
        have z2 := (hSw.cell (p := ⟨b2, o2 + j, none⟩) l2).trans y2
        try simp only [List.getElem_toArray, List.getElem_cons_zero, List.getElem_cons_succ]
        go_simp
        exact rfl
      try simp only [Act.put, List.setIfInBounds_toArray, List.set_cons_zero, List.set_cons_succ, List.getElem_toArray, List.getElem_cons_zero, List.getElem_cons_succ]
      refine mix.D_done (by kernel_rfl) ?_ _
      try simp only [Act.put, List.setIfInBounds_toArray, List.set_cons_zero, List.set_cons_succ, List.getElem_toArray, List.getElem_cons_zero, List.getElem_cons_succ]
      have hs2 : St none_ w wr.drew := hs.drew
      generalize wr.drew = W9 at hs2 ⊢
      clear hS0
      go_wp2_with fail
      go_roundw
      case rel => exact ⟨j + 1, by go_num, hlt, hs2⟩
      case measure => first | (simp [RowKit.intOf]; done) | (simp [RowKit.intOf]; omega) | omega
    · obtain rfl : j = l.length := by omega
      clear h1 h2
      go_wp2_with fail
      go_ret
      exact ⟨rfl, hs⟩

/-- where two cells and their powers stand behind a step; if they were alike, they are -/
def StepC (p g q d : Nat) (c c2 : CS) (L W M V : Int) (w : World) (e : Ending) (w' : World) : Prop :=
  ∃ bb c' c2' L' W' M' V', e = .returned (.bool bb) ∧ Ce w' p g c' ∧ Blk w' p 144 (PC L' W') ∧ Dc w' q d c2' ∧ Blk w' q 146 (DC (bL M') (aL M') V') ∧ In L' ∧ In M' ∧
    (c = c2 → L = M → W = V → bb = true ∧ c' = c2' ∧ L' = M' ∧ W' = V') ∧ St (fun k => (k = p ∨ k = g) ∨ k = q ∨ k = d) w w'
theorem toList_ne {a b : ByteArray} (h : ¬ a = b) : (a.toList == b.toList) = false := by
  rw [beq_eq_false_iff_ne, ByteArray.toList_eq, ByteArray.toList_eq]
  exact fun e => h (ByteArray.ext (Array.toList_inj.1 e))
theorem St.cell {S : Nat → Prop} {w w' : World} (h : St S w w') {g i : Nat} (hg : g < w.heap.size) (hn : ¬ S g) : w'.cell? ⟨g, i, none⟩ = w.cell? ⟨g, i, none⟩ := by
  simp [World.cell?, h.block g hg hn]
section
variable {w : World} {p g q d : Nat} {c c2 : CS} {L W M V : Int}
theorem lF_in {f L : Int} (h : In L) : In (lF f L) := by unfold lF; split; exact in_sp h; exact h
/-- two raw writes, one behind the other, alike -/
theorem StepC.both {f f2 : Int} {k : Nat} {b : ByteArray} {w1 w2 : World} (hne : g ≠ q ∧ g ≠ d ∧ p ≠ q ∧ p ≠ d) (h1 : Ce w1 p g (cellF c f L k b)) (h2 : Blk w1 p 144 (PC (lF f L) (wF f L W))) (h3 : St (two p g) w w1)
    (h4 : Dc w2 q d (cellF c2 f2 M k b)) (h5 : Blk w2 q 146 (DC (bL (lF f2 M)) (aL (lF f2 M)) (wF f2 M V))) (h6 : St (two q d) w1 w2) (hI : In L) (hJ : In M) (hf : c = c2 → f = f2) {bb : Bool} (hb : ansF f L = ansF f2 M → bb = true) :
    StepC p g q d c c2 L W M V w (.returned (.bool bb)) w2 := by
  have ng : ¬ two q d g := fun h => h.elim hne.1 hne.2.1
  have np : ¬ two q d p := fun h => h.elim hne.2.2.1 hne.2.2.2
  refine ⟨bb, _, _, _, _, _, _, rfl, h1.keep h6 ng, h6.blk h2 np, h4, h5, lF_in hI, lF_in hJ, fun e1 e2 e3 => ?_, (h3.mono fun k h => .inl h).trans (h6.mono fun k h => .inr h)⟩
  subst e1 e2 e3
  obtain rfl := hf rfl
  exact ⟨hb rfl, rfl, rfl, rfl⟩

set_option maxRecDepth 100000 in
set_option maxHeartbeats 4000000 in
theorem step_set (on : Bool) (sl : Int) (b : ByteArray) (hc : Ce w p g c) (hp : Blk w p 144 (PC L W)) (hd : Dc w q d c2) (hq : Blk w q 146 (DC (bL M) (aL M) V)) (hI : In L) (hJ : In M) (hne : g ≠ q ∧ g ≠ d ∧ p ≠ q ∧ p ≠ d) :
    Calls Try.prog 31 #[.pointer (some ⟨g, 0, none⟩), .pointer (some ⟨d, 0, none⟩), .agg #[.int .i64 1, .bool on, .int .i64 sl, .string b]] w (StepC p g q d c c2 L W M V w) := by
  have bZ : Below w.heap.size w (w.alloc (.cells #[.int .i64 1, .bool on, .int .i64 sl, .string b] 80)) := (Below.refl _ _).alloc (Nat.le_refl _) _
  have kZ := Blk.new w 80 #[.int .i64 1, .bool on, .int .i64 sl, .string b]
  have lg := hc.lt
  have lp := hp.lt
  have ld := hd.lt
  have lq := hq.lt
  have hcZ := hc.below bZ lg
  have hpZ := hp.below bZ lp
  have hdZ := hd.below bZ ld
  have hqZ := hq.below bZ lq
  have sZ : ∀ S, St S w (w.alloc (.cells #[.int .i64 1, .bool on, .int .i64 sl, .string b] 80)) := fun S => St.of_below bZ
  have hZ : ∀ S : Nat → Prop, (∀ k, S k → k < w.heap.size) → ¬ S w.heap.size := fun S h h2 => absurd (h _ h2) (by omega)
  generalize hWZ : w.alloc (.cells #[.int .i64 1, .bool on, .int .i64 sl, .string b] 80) = WZ at *
  have y0 := kZ.cell 0
  have y2 := kZ.cell 2
  have y3 := kZ.cell 3
  simp only [List.getElem?_toArray, List.getElem?_cons_zero, List.getElem?_cons_succ] at y0 y2 y3
  have lZ := kZ.lt
  clear hc hp hd hq
  have c1 := set_any hcZ hpZ hI sl b
  go_enter Try.func31, Try.ntmps31
  go_wp2_with fail
  refine c1.mono ?_
  rintro e w1 ⟨rfl, a1, a2, a3⟩
  have kZ1 := a3.blk kZ (hZ _ (fun k hk => by rcases hk with rfl | rfl <;> assumption))
  have hd1 := hdZ.keep a3 (fun h => h.elim (fun e => hne.2.2.2 e.symm) (fun e => hne.2.1 e.symm))
  have hq1 := a3.blk hqZ (fun h => h.elim (fun e => hne.2.2.1 e.symm) (fun e => hne.1 e.symm))
  clear kZ y0 y2 y3 c1 hcZ hpZ
  have y0 := kZ1.cell 0
  have y2 := kZ1.cell 2
  have y3 := kZ1.cell 3
  simp only [List.getElem?_toArray, List.getElem?_cons_zero, List.getElem?_cons_succ] at y0 y2 y3
  have c2' := refSet_any hd1 hq1 hJ sl b
  go_wp2_with fail
  refine c2'.mono ?_
  rintro e w2 ⟨rfl, a4, a5, a6⟩
  go_wp2_with fail
  go_ret
  exact StepC.both hne a1 a2 ((sZ _).trans a3) a4 a5 a6 hI hJ (fun e => by rw [e]) (fun e => by simp [e])

set_option maxRecDepth 100000 in
set_option maxHeartbeats 4000000 in
theorem step_erase (on : Bool) (sl : Int) (b : ByteArray) (hc : Ce w p g c) (hp : Blk w p 144 (PC L W)) (hd : Dc w q d c2) (hq : Blk w q 146 (DC (bL M) (aL M) V)) (hI : In L) (hJ : In M) (hne : g ≠ q ∧ g ≠ d ∧ p ≠ q ∧ p ≠ d) :
    Calls Try.prog 31 #[.pointer (some ⟨g, 0, none⟩), .pointer (some ⟨d, 0, none⟩), .agg #[.int .i64 2, .bool on, .int .i64 sl, .string b]] w (StepC p g q d c c2 L W M V w) := by
  have bZ : Below w.heap.size w (w.alloc (.cells #[.int .i64 2, .bool on, .int .i64 sl, .string b] 80)) := (Below.refl _ _).alloc (Nat.le_refl _) _
  have kZ := Blk.new w 80 #[.int .i64 2, .bool on, .int .i64 sl, .string b]
  have lg := hc.lt
  have lp := hp.lt
  have ld := hd.lt
  have lq := hq.lt
  have hcZ := hc.below bZ lg
  have hpZ := hp.below bZ lp
  have hdZ := hd.below bZ ld
  have hqZ := hq.below bZ lq
  have sZ : ∀ S, St S w (w.alloc (.cells #[.int .i64 2, .bool on, .int .i64 sl, .string b] 80)) := fun S => St.of_below bZ
  have hZ : ∀ S : Nat → Prop, (∀ k, S k → k < w.heap.size) → ¬ S w.heap.size := fun S h h2 => absurd (h _ h2) (by omega)
  generalize hWZ : w.alloc (.cells #[.int .i64 2, .bool on, .int .i64 sl, .string b] 80) = WZ at *
  have y0 := kZ.cell 0
  have y2 := kZ.cell 2
  have y3 := kZ.cell 3
  simp only [List.getElem?_toArray, List.getElem?_cons_zero, List.getElem?_cons_succ] at y0 y2 y3
  have lZ := kZ.lt
  clear hc hp hd hq
  have c1 := erase_any hcZ hpZ hI sl
  go_enter Try.func31, Try.ntmps31
  go_wp2_with fail
  refine c1.mono ?_
  rintro e w1 ⟨rfl, a1, a2, a3⟩
  have kZ1 := a3.blk kZ (hZ _ (fun k hk => by rcases hk with rfl | rfl <;> assumption))
  have hd1 := hdZ.keep a3 (fun h => h.elim (fun e => hne.2.2.2 e.symm) (fun e => hne.2.1 e.symm))
  have hq1 := a3.blk hqZ (fun h => h.elim (fun e => hne.2.2.1 e.symm) (fun e => hne.1 e.symm))
  clear kZ y0 y2 y3 c1 hcZ hpZ
  have y0 := kZ1.cell 0
  have y2 := kZ1.cell 2
  have y3 := kZ1.cell 3
  simp only [List.getElem?_toArray, List.getElem?_cons_zero, List.getElem?_cons_succ] at y0 y2 y3
  have c2' := refErase_any hd1 hq1 hJ sl
  go_wp2_with fail
  refine c2'.mono ?_
  rintro e w2 ⟨rfl, a4, a5, a6⟩
  go_wp2_with fail
  go_ret
  exact StepC.both hne a1 a2 ((sZ _).trans a3) a4 a5 a6 hI hJ (fun e => by rw [e]) (fun e => by simp [e])

set_option maxRecDepth 100000 in
set_option maxHeartbeats 4000000 in
theorem step_get (on : Bool) (sl : Int) (b : ByteArray) (hc : Ce w p g c) (hp : Blk w p 144 (PC L W)) (hd : Dc w q d c2) (hq : Blk w q 146 (DC (bL M) (aL M) V)) (hI : In L) (hJ : In M) (hne : g ≠ q ∧ g ≠ d ∧ p ≠ q ∧ p ≠ d) :
    Calls Try.prog 31 #[.pointer (some ⟨g, 0, none⟩), .pointer (some ⟨d, 0, none⟩), .agg #[.int .i64 3, .bool on, .int .i64 sl, .string b]] w (StepC p g q d c c2 L W M V w) := by
  have bZ : Below w.heap.size w (w.alloc (.cells #[.int .i64 3, .bool on, .int .i64 sl, .string b] 80)) := (Below.refl _ _).alloc (Nat.le_refl _) _
  have kZ := Blk.new w 80 #[.int .i64 3, .bool on, .int .i64 sl, .string b]
  have lg := hc.lt
  have lp := hp.lt
  have ld := hd.lt
  have lq := hq.lt
  have hcZ := hc.below bZ lg
  have hpZ := hp.below bZ lp
  have hdZ := hd.below bZ ld
  have hqZ := hq.below bZ lq
  have sZ : ∀ S, St S w (w.alloc (.cells #[.int .i64 3, .bool on, .int .i64 sl, .string b] 80)) := fun S => St.of_below bZ
  have hZ : ∀ S : Nat → Prop, (∀ k, S k → k < w.heap.size) → ¬ S w.heap.size := fun S h h2 => absurd (h _ h2) (by omega)
  generalize hWZ : w.alloc (.cells #[.int .i64 3, .bool on, .int .i64 sl, .string b] 80) = WZ at *
  have y0 := kZ.cell 0
  have y2 := kZ.cell 2
  have y3 := kZ.cell 3
  simp only [List.getElem?_toArray, List.getElem?_cons_zero, List.getElem?_cons_succ] at y0 y2 y3
  have lZ := kZ.lt
  clear hc hp hd hq
  have c1 := get_any hcZ sl
  go_enter Try.func31, Try.ntmps31
  go_wp2_with fail
  refine c1.mono ?_
  rintro e w1 ⟨rfl, s1⟩
  have kZ1 := s1.blk kZ (fun h => h)
  have hc1 := hcZ.keep s1 (fun h => h)
  have hp1 := s1.blk hpZ (fun h => h)
  have hd1 := hdZ.keep s1 (fun h => h)
  have hq1 := s1.blk hqZ (fun h => h)
  clear kZ y0 y2 y3 c1 hcZ hpZ hdZ hqZ
  have y0 := kZ1.cell 0
  have y2 := kZ1.cell 2
  have y3 := kZ1.cell 3
  simp only [List.getElem?_toArray, List.getElem?_cons_zero, List.getElem?_cons_succ] at y0 y2 y3
  have c2' := refGetC_any hd1 sl
  go_wp2_with fail
  refine c2'.mono ?_
  rintro e w2 ⟨rfl, s2⟩
  have hF : ∀ bb, (c = c2 → bb = true) → StepC p g q d c c2 L W M V w (.returned (.bool bb)) w2 := fun bb hbb =>
    ⟨bb, _, _, _, _, _, _, rfl, hc1.keep s2 (fun h => h), s2.blk hp1 (fun h => h), hd1.keep s2 (fun h => h), s2.blk hq1 (fun h => h), hI, hJ, fun e1 e2 e3 => ⟨hbb e1, e1, e2, e3⟩, (sZ _).trans ((s1.trans s2).mono fun k h => h.elim)⟩
  have HC : Hid (c = c2 → getV c sl = getV c2 sl ∧ getB c sl = getB c2 sl) := powers.lay (fun e => by subst e; exact ⟨rfl, rfl⟩)
  clear hc1 hp1 hd1 hq1 c2' kZ1 y0 y2 y3
  generalize getV c sl = v1 at *
  generalize getV c2 sl = v2 at *
  generalize getB c sl = b1 at *
  generalize getB c2 sl = b2 at *
  by_cases hv : v1 = v2
  · subst hv
    go_wp2_with fail
    go_ret
    exact hF _ (fun e => by have := (HC.out e).2; subst this; simp)
  · have n1 : decide (v1 = v2) = false := decide_eq_false hv
    have n2 : (v1.toList == v2.toList) = false := toList_ne hv
    have hv := powers.lay hv
    go_wp2_with fail
    go_ret
    exact hF _ (fun e => absurd (HC.out e).1 hv.out)

set_option maxRecDepth 100000 in
set_option maxHeartbeats 4000000 in
theorem step_cut (on : Bool) (sl : Int) (b : ByteArray) (hc : Ce w p g c) (hp : Blk w p 144 (PC L W)) (hd : Dc w q d c2) (hq : Blk w q 146 (DC (bL M) (aL M) V)) (hI : In L) (hJ : In M) (hne : g ≠ q ∧ g ≠ d ∧ p ≠ q ∧ p ≠ d) :
    Calls Try.prog 31 #[.pointer (some ⟨g, 0, none⟩), .pointer (some ⟨d, 0, none⟩), .agg #[.int .i64 4, .bool on, .int .i64 sl, .string b]] w (StepC p g q d c c2 L W M V w) := by
  have bZ : Below w.heap.size w (w.alloc (.cells #[.int .i64 4, .bool on, .int .i64 sl, .string b] 80)) := (Below.refl _ _).alloc (Nat.le_refl _) _
  have kZ := Blk.new w 80 #[.int .i64 4, .bool on, .int .i64 sl, .string b]
  have lg := hc.lt
  have lp := hp.lt
  have ld := hd.lt
  have lq := hq.lt
  have hcZ := hc.below bZ lg
  have hpZ := hp.below bZ lp
  have hdZ := hd.below bZ ld
  have hqZ := hq.below bZ lq
  have sZ : ∀ S, St S w (w.alloc (.cells #[.int .i64 4, .bool on, .int .i64 sl, .string b] 80)) := fun S => St.of_below bZ
  have hZ : ∀ S : Nat → Prop, (∀ k, S k → k < w.heap.size) → ¬ S w.heap.size := fun S h h2 => absurd (h _ h2) (by omega)
  generalize hWZ : w.alloc (.cells #[.int .i64 4, .bool on, .int .i64 sl, .string b] 80) = WZ at *
  have y0 := kZ.cell 0
  have y2 := kZ.cell 2
  have y3 := kZ.cell 3
  simp only [List.getElem?_toArray, List.getElem?_cons_zero, List.getElem?_cons_succ] at y0 y2 y3
  have lZ := kZ.lt
  clear hc hp hd hq
  have x0 := hcZ.ptr
  have hgp := hcZ.ne
  have l1 : g < WZ.heap.size := Nat.lt_of_lt_of_le lg bZ.size
  have nZp : w.heap.size ≠ p := by omega
  have nZq : w.heap.size ≠ q := by omega
  go_enter Try.func31, Try.ntmps31
  go_upto_region 13 with (fail)
  have hS0 : St (one p) WZ WZ.drew := (St.refl _ _).drew
  have hD := fun (w' : World) (hSw : St (one p) WZ w') => hSw
  refine mix.region_D (fun w' => St (one p) WZ w') (fun _ => false) (by kernel_rfl) ?_
  refine mix.D_take (i := 0) (v := ?_) rfl (by kernel_rfl) (by kernel_rfl) (fun _ _ _ h => h) (Or.inl ⟨by first | rfl | simp [Region.wanted, yielded], ?_⟩) hS0 ?_
  rotate_left
  · intro w' hSw
    have z1 := (St.cell hSw (g := g) (i := 0) l1 hgp).trans x0
    have z2 := (St.cell hSw (g := w.heap.size) (i := 2) lZ nZp).trans y2
    try simp only [List.getElem_toArray, List.getElem_cons_zero, List.getElem_cons_succ]
    go_simp
    exact rfl
  try simp only [Act.put, List.setIfInBounds_toArray, List.set_cons_zero, List.set_cons_succ, List.getElem_toArray, List.getElem_cons_zero, List.getElem_cons_succ]
  refine mix.D_take (i := 1) (v := ?_) rfl (by kernel_rfl) (by kernel_rfl) (fun _ _ _ h => h) (Or.inl ⟨by first | rfl | simp [Region.wanted, yielded], ?_⟩) hS0 ?_
  rotate_left
  · intro w' hSw
    have z1 := (St.cell hSw (g := g) (i := 0) l1 hgp).trans x0
    have z2 := (St.cell hSw (g := w.heap.size) (i := 2) lZ nZp).trans y2
    try simp only [List.getElem_toArray, List.getElem_cons_zero, List.getElem_cons_succ]
    go_simp
    exact rfl
  try simp only [Act.put, List.setIfInBounds_toArray, List.set_cons_zero, List.set_cons_succ, List.getElem_toArray, List.getElem_cons_zero, List.getElem_cons_succ]
  refine mix.D_take (i := 2) (v := ?_) rfl (by kernel_rfl) (by kernel_rfl) (fun _ _ _ h => h) (Or.inl ⟨by first | rfl | simp [Region.wanted, yielded], ?_⟩) hS0 ?_
  rotate_left
  · intro w' hSw
    have z1 := (St.cell hSw (g := g) (i := 0) l1 hgp).trans x0
    have z2 := (St.cell hSw (g := w.heap.size) (i := 2) lZ nZp).trans y2
    try simp only [List.getElem_toArray, List.getElem_cons_zero, List.getElem_cons_succ]
    go_simp
    exact rfl
  try simp only [Act.put, List.setIfInBounds_toArray, List.set_cons_zero, List.set_cons_succ, List.getElem_toArray, List.getElem_cons_zero, List.getElem_cons_succ]
  refine mix.D_take (i := 3) (v := ?_) rfl (by kernel_rfl) (by kernel_rfl) (fun _ _ _ h => h) (Or.inl ⟨by first | rfl | simp [Region.wanted, yielded], ?_⟩) hS0 ?_
  rotate_left
  · intro w' hSw
    have z1 := (St.cell hSw (g := g) (i := 0) l1 hgp).trans x0
    have z2 := (St.cell hSw (g := w.heap.size) (i := 2) lZ nZp).trans y2
    try simp only [List.getElem_toArray, List.getElem_cons_zero, List.getElem_cons_succ]
    go_simp
    exact rfl
  try simp only [Act.put, List.setIfInBounds_toArray, List.set_cons_zero, List.set_cons_succ, List.getElem_toArray, List.getElem_cons_zero, List.getElem_cons_succ]
  refine mix.D_take (i := 4) (v := ?_) rfl (by kernel_rfl) (by kernel_rfl) (fun _ _ _ h => h) (Or.inl ⟨by first | rfl | simp [Region.wanted, yielded], ?_⟩) hS0 ?_
  rotate_left
  · intro w' hSw
    have z1 := (St.cell hSw (g := g) (i := 0) l1 hgp).trans x0
    have z2 := (St.cell hSw (g := w.heap.size) (i := 2) lZ nZp).trans y2
    try simp only [List.getElem_toArray, List.getElem_cons_zero, List.getElem_cons_succ]
    go_simp
    exact rfl
  try simp only [Act.put, List.setIfInBounds_toArray, List.set_cons_zero, List.set_cons_succ, List.getElem_toArray, List.getElem_cons_zero, List.getElem_cons_succ]
  refine mix.D_take (i := 5) (v := ?_) rfl (by kernel_rfl) (by kernel_rfl) (fun _ _ _ h => h) (Or.inl ⟨by first | rfl | simp [Region.wanted, yielded], ?_⟩) hS0 ?_
  rotate_left
  · intro w' hSw
    have z1 := (St.cell hSw (g := g) (i := 0) l1 hgp).trans x0
    have z2 := (St.cell hSw (g := w.heap.size) (i := 2) lZ nZp).trans y2
    try simp only [List.getElem_toArray, List.getElem_cons_zero, List.getElem_cons_succ]
    go_simp
    exact rfl
  try simp only [Act.put, List.setIfInBounds_toArray, List.set_cons_zero, List.set_cons_succ, List.getElem_toArray, List.getElem_cons_zero, List.getElem_cons_succ]
  refine mix.D_op (k := 6) rfl rfl (by kernel_rfl) (fun K' hK => ?_)
  simp only [List.getElem_toArray, List.getElem_cons_zero, List.getElem_cons_succ]
  go_wp2_with fail
  refine (cut_ok sl (hpZ.drew) hI).mono ?_
  rintro e w1 ⟨rfl, kp1, s1⟩
  have hS1 : St (one p) WZ w1 := hS0.trans s1
  refine hK.out _ _ (fun _ => hS1) ?_
  clear hK K'
  try simp only [Act.put, List.setIfInBounds_toArray, List.set_cons_zero, List.set_cons_succ]
  refine mix.D_done (by kernel_rfl) ?_ _
  try simp only [Act.put, List.setIfInBounds_toArray, List.set_cons_zero, List.set_cons_succ, List.getElem_toArray, List.getElem_cons_zero, List.getElem_cons_succ]
  have kZ1 := hS1.blk kZ nZp
  have hc1 := hcZ.keep hS1 hgp
  have hd1 := hdZ.keep hS1 (fun e => hne.2.2.2 e.symm)
  have hq1 := hS1.blk hqZ (fun e => hne.2.2.1 e.symm)
  have hdq := hdZ.2
  have x1 := hd1.1.cell 0
  have y0 := kZ1.cell 0
  have y2 := kZ1.cell 2
  simp only [List.getElem?_toArray, List.getElem?_cons_zero, List.getElem?_cons_succ] at x1 y0 y2
  have l2 : d < w1.heap.size := hd1.lt
  have l3 := kZ1.lt
  clear hS0 hcZ hpZ hdZ hqZ x0
  go_upto_region 14 with (fail)
  have hS2 : St (one q) w1 w1.drew := (St.refl _ _).drew
  refine mix.region_D (fun w' => St (one q) w1 w') (fun _ => false) (by kernel_rfl) ?_
  refine mix.D_take (i := 0) (v := ?_) rfl (by kernel_rfl) (by kernel_rfl) (fun _ _ _ h => h) (Or.inl ⟨by first | rfl | simp [Region.wanted, yielded], ?_⟩) hS2 ?_
  rotate_left
  · intro w' hSw
    have z1 := (St.cell hSw (g := d) (i := 0) l2 hdq).trans x1
    have z2 := (St.cell hSw (g := w.heap.size) (i := 2) l3 nZq).trans y2
    try simp only [List.getElem_toArray, List.getElem_cons_zero, List.getElem_cons_succ]
    go_simp
    exact rfl
  try simp only [Act.put, List.setIfInBounds_toArray, List.set_cons_zero, List.set_cons_succ, List.getElem_toArray, List.getElem_cons_zero, List.getElem_cons_succ]
  refine mix.D_take (i := 1) (v := ?_) rfl (by kernel_rfl) (by kernel_rfl) (fun _ _ _ h => h) (Or.inl ⟨by first | rfl | simp [Region.wanted, yielded], ?_⟩) hS2 ?_
  rotate_left
  · intro w' hSw
    have z1 := (St.cell hSw (g := d) (i := 0) l2 hdq).trans x1
    have z2 := (St.cell hSw (g := w.heap.size) (i := 2) l3 nZq).trans y2
    try simp only [List.getElem_toArray, List.getElem_cons_zero, List.getElem_cons_succ]
    go_simp
    exact rfl
  try simp only [Act.put, List.setIfInBounds_toArray, List.set_cons_zero, List.set_cons_succ, List.getElem_toArray, List.getElem_cons_zero, List.getElem_cons_succ]
  refine mix.D_take (i := 2) (v := ?_) rfl (by kernel_rfl) (by kernel_rfl) (fun _ _ _ h => h) (Or.inl ⟨by first | rfl | simp [Region.wanted, yielded], ?_⟩) hS2 ?_
  rotate_left
  · intro w' hSw
    have z1 := (St.cell hSw (g := d) (i := 0) l2 hdq).trans x1
    have z2 := (St.cell hSw (g := w.heap.size) (i := 2) l3 nZq).trans y2
    try simp only [List.getElem_toArray, List.getElem_cons_zero, List.getElem_cons_succ]
    go_simp
    exact rfl
  try simp only [Act.put, List.setIfInBounds_toArray, List.set_cons_zero, List.set_cons_succ, List.getElem_toArray, List.getElem_cons_zero, List.getElem_cons_succ]
  refine mix.D_take (i := 3) (v := ?_) rfl (by kernel_rfl) (by kernel_rfl) (fun _ _ _ h => h) (Or.inl ⟨by first | rfl | simp [Region.wanted, yielded], ?_⟩) hS2 ?_
  rotate_left
  · intro w' hSw
    have z1 := (St.cell hSw (g := d) (i := 0) l2 hdq).trans x1
    have z2 := (St.cell hSw (g := w.heap.size) (i := 2) l3 nZq).trans y2
    try simp only [List.getElem_toArray, List.getElem_cons_zero, List.getElem_cons_succ]
    go_simp
    exact rfl
  try simp only [Act.put, List.setIfInBounds_toArray, List.set_cons_zero, List.set_cons_succ, List.getElem_toArray, List.getElem_cons_zero, List.getElem_cons_succ]
  refine mix.D_take (i := 4) (v := ?_) rfl (by kernel_rfl) (by kernel_rfl) (fun _ _ _ h => h) (Or.inl ⟨by first | rfl | simp [Region.wanted, yielded], ?_⟩) hS2 ?_
  rotate_left
  · intro w' hSw
    have z1 := (St.cell hSw (g := d) (i := 0) l2 hdq).trans x1
    have z2 := (St.cell hSw (g := w.heap.size) (i := 2) l3 nZq).trans y2
    try simp only [List.getElem_toArray, List.getElem_cons_zero, List.getElem_cons_succ]
    go_simp
    exact rfl
  try simp only [Act.put, List.setIfInBounds_toArray, List.set_cons_zero, List.set_cons_succ, List.getElem_toArray, List.getElem_cons_zero, List.getElem_cons_succ]
  refine mix.D_take (i := 5) (v := ?_) rfl (by kernel_rfl) (by kernel_rfl) (fun _ _ _ h => h) (Or.inl ⟨by first | rfl | simp [Region.wanted, yielded], ?_⟩) hS2 ?_
  rotate_left
  · intro w' hSw
    have z1 := (St.cell hSw (g := d) (i := 0) l2 hdq).trans x1
    have z2 := (St.cell hSw (g := w.heap.size) (i := 2) l3 nZq).trans y2
    try simp only [List.getElem_toArray, List.getElem_cons_zero, List.getElem_cons_succ]
    go_simp
    exact rfl
  try simp only [Act.put, List.setIfInBounds_toArray, List.set_cons_zero, List.set_cons_succ, List.getElem_toArray, List.getElem_cons_zero, List.getElem_cons_succ]
  refine mix.D_op (k := 6) rfl rfl (by kernel_rfl) (fun K' hK => ?_)
  simp only [List.getElem_toArray, List.getElem_cons_zero, List.getElem_cons_succ]
  go_wp2_with fail
  refine (refCut_ok sl (hq1.drew) hJ).mono ?_
  rintro e w2 ⟨rfl, kq2, s2⟩
  have hS3 : St (one q) w1 w2 := hS2.trans s2
  refine hK.out _ _ (fun _ => hS3) ?_
  clear hK K'
  try simp only [Act.put, List.setIfInBounds_toArray, List.set_cons_zero, List.set_cons_succ]
  refine mix.D_done (by kernel_rfl) ?_ _
  try simp only [Act.put, List.setIfInBounds_toArray, List.set_cons_zero, List.set_cons_succ, List.getElem_toArray, List.getElem_cons_zero, List.getElem_cons_succ]
  have kp2 := hS3.blk kp1 hne.2.2.1
  have hc2 := hc1.keep hS3 hne.1
  have hd2 := hd1.keep hS3 hdq
  clear hS2 hc1 hd1 hq1 kp1 x1 y0 y2 kZ1
  go_wp2_with fail
  go_ret
  exact ⟨true, _, _, _, _, _, _, rfl, hc2, kp2, hd2, kq2, in_cut L sl, in_cut M sl, fun e1 e2 e3 => ⟨rfl, e1, by rw [e2], e3⟩, ((sZ _).trans (hS1.mono fun k h => .inl (.inl h))).trans (hS3.mono fun k h => .inr (.inl h))⟩

set_option maxRecDepth 100000 in
set_option maxHeartbeats 4000000 in
theorem step_restore (on : Bool) (sl : Int) (b : ByteArray) (hc : Ce w p g c) (hp : Blk w p 144 (PC L W)) (hd : Dc w q d c2) (hq : Blk w q 146 (DC (bL M) (aL M) V)) (hI : In L) (hJ : In M) (hne : g ≠ q ∧ g ≠ d ∧ p ≠ q ∧ p ≠ d) :
    Calls Try.prog 31 #[.pointer (some ⟨g, 0, none⟩), .pointer (some ⟨d, 0, none⟩), .agg #[.int .i64 5, .bool on, .int .i64 sl, .string b]] w (StepC p g q d c c2 L W M V w) := by
  have bZ : Below w.heap.size w (w.alloc (.cells #[.int .i64 5, .bool on, .int .i64 sl, .string b] 80)) := (Below.refl _ _).alloc (Nat.le_refl _) _
  have kZ := Blk.new w 80 #[.int .i64 5, .bool on, .int .i64 sl, .string b]
  have lg := hc.lt
  have lp := hp.lt
  have ld := hd.lt
  have lq := hq.lt
  have hcZ := hc.below bZ lg
  have hpZ := hp.below bZ lp
  have hdZ := hd.below bZ ld
  have hqZ := hq.below bZ lq
  have sZ : ∀ S, St S w (w.alloc (.cells #[.int .i64 5, .bool on, .int .i64 sl, .string b] 80)) := fun S => St.of_below bZ
  have hZ : ∀ S : Nat → Prop, (∀ k, S k → k < w.heap.size) → ¬ S w.heap.size := fun S h h2 => absurd (h _ h2) (by omega)
  generalize hWZ : w.alloc (.cells #[.int .i64 5, .bool on, .int .i64 sl, .string b] 80) = WZ at *
  have y0 := kZ.cell 0
  have y2 := kZ.cell 2
  have y3 := kZ.cell 3
  simp only [List.getElem?_toArray, List.getElem?_cons_zero, List.getElem?_cons_succ] at y0 y2 y3
  have lZ := kZ.lt
  clear hc hp hd hq
  have x0 := hcZ.ptr
  have hgp := hcZ.ne
  have nZp : w.heap.size ≠ p := by omega
  have hdq := hdZ.2
  have c1 := restore_ok hpZ
  go_enter Try.func31, Try.ntmps31
  go_wp2_with fail
  refine c1.mono ?_
  rintro e w1 ⟨rfl, kp1, s1⟩
  have kZ1 := s1.blk kZ nZp
  have hc1 := hcZ.keep s1 hgp
  have hd1 := hdZ.keep s1 (fun e => hne.2.2.2 e.symm)
  have hq1 := s1.blk hqZ (fun e => hne.2.2.1 e.symm)
  have x1 := hd1.1.cell 0
  have y0 := kZ1.cell 0
  simp only [List.getElem?_toArray, List.getElem?_cons_zero, List.getElem?_cons_succ] at x1 y0
  have c2' := refRestore_ok hq1
  clear hcZ hpZ hdZ hqZ x0 c1
  go_wp2_with fail
  refine c2'.mono ?_
  rintro e w2 ⟨rfl, kq2, s2⟩
  have kp2 := s2.blk kp1 hne.2.2.1
  have hc2 := hc1.keep s2 hne.1
  have hd2 := hd1.keep s2 hdq
  clear hc1 hd1 hq1 kp1 x1 y0 kZ1 c2'
  go_wp2_with fail
  go_ret
  exact ⟨true, _, _, _, _, -1, _, rfl, hc2, kp2, hd2, (by rw [show bL (-1) = true by decide, show aL (-1) = 0 by decide]; exact kq2), (by unfold In; omega), (by unfold In; omega), fun e1 e2 e3 => ⟨rfl, e1, rfl, e3⟩, ((sZ _).trans (s1.mono fun k h => .inl (.inl h))).trans (s2.mono fun k h => .inr (.inl h))⟩

set_option maxRecDepth 100000 in
set_option maxHeartbeats 4000000 in
theorem step_none (kk : Int) (hk1 : ¬ kk = 1) (hk2 : ¬ kk = 2) (hk3 : ¬ kk = 3) (hk4 : ¬ kk = 4) (hk5 : ¬ kk = 5) (on : Bool) (sl : Int) (b : ByteArray) (hc : Ce w p g c) (hp : Blk w p 144 (PC L W)) (hd : Dc w q d c2) (hq : Blk w q 146 (DC (bL M) (aL M) V)) (hI : In L) (hJ : In M) (hne : g ≠ q ∧ g ≠ d ∧ p ≠ q ∧ p ≠ d) :
    Calls Try.prog 31 #[.pointer (some ⟨g, 0, none⟩), .pointer (some ⟨d, 0, none⟩), .agg #[.int .i64 kk, .bool on, .int .i64 sl, .string b]] w (StepC p g q d c c2 L W M V w) := by
  have bZ : Below w.heap.size w (w.alloc (.cells #[.int .i64 kk, .bool on, .int .i64 sl, .string b] 80)) := (Below.refl _ _).alloc (Nat.le_refl _) _
  have kZ := Blk.new w 80 #[.int .i64 kk, .bool on, .int .i64 sl, .string b]
  have lg := hc.lt
  have lp := hp.lt
  have ld := hd.lt
  have lq := hq.lt
  have hcZ := hc.below bZ lg
  have hpZ := hp.below bZ lp
  have hdZ := hd.below bZ ld
  have hqZ := hq.below bZ lq
  have sZ : ∀ S, St S w (w.alloc (.cells #[.int .i64 kk, .bool on, .int .i64 sl, .string b] 80)) := fun S => St.of_below bZ
  have hZ : ∀ S : Nat → Prop, (∀ k, S k → k < w.heap.size) → ¬ S w.heap.size := fun S h h2 => absurd (h _ h2) (by omega)
  generalize hWZ : w.alloc (.cells #[.int .i64 kk, .bool on, .int .i64 sl, .string b] 80) = WZ at *
  have y0 := kZ.cell 0
  have y2 := kZ.cell 2
  have y3 := kZ.cell 3
  simp only [List.getElem?_toArray, List.getElem?_cons_zero, List.getElem?_cons_succ] at y0 y2 y3
  have lZ := kZ.lt
  clear hc hp hd hq
  have d1 : decide (kk = 1) = false := decide_eq_false hk1
  have d2 : decide (kk = 2) = false := decide_eq_false hk2
  have d3 : decide (kk = 3) = false := decide_eq_false hk3
  have d4 : decide (kk = 4) = false := decide_eq_false hk4
  have d5 : decide (kk = 5) = false := decide_eq_false hk5
  have n1 : (kk == 1) = false := beq_eq_false_iff_ne.2 hk1
  have n2 : (kk == 2) = false := beq_eq_false_iff_ne.2 hk2
  have n3 : (kk == 3) = false := beq_eq_false_iff_ne.2 hk3
  have n4 : (kk == 4) = false := beq_eq_false_iff_ne.2 hk4
  have n5 : (kk == 5) = false := beq_eq_false_iff_ne.2 hk5
  go_enter Try.func31, Try.ntmps31
  go_wp2_with fail
  go_ret
  exact ⟨true, _, _, _, _, _, _, rfl, hcZ, hpZ, hdZ, hqZ, hI, hJ, fun e1 e2 e3 => ⟨rfl, e1, e2, e3⟩, sZ _⟩

theorem step_ok (x : CO) (hc : Ce w p g c) (hp : Blk w p 144 (PC L W)) (hd : Dc w q d c2) (hq : Blk w q 146 (DC (bL M) (aL M) V)) (hI : In L) (hJ : In M) (hne : g ≠ q ∧ g ≠ d ∧ p ≠ q ∧ p ≠ d) :
    Calls Try.prog 31 #[.pointer (some ⟨g, 0, none⟩), .pointer (some ⟨d, 0, none⟩), .agg #[.int .i64 x.k, .bool x.on, .int .i64 x.sl, .string x.b]] w (StepC p g q d c c2 L W M V w) := by
  obtain ⟨k, on, sl, b⟩ := x
  by_cases h1 : k = 1
  · subst h1; exact step_set on sl b hc hp hd hq hI hJ hne
  by_cases h2 : k = 2
  · subst h2; exact step_erase on sl b hc hp hd hq hI hJ hne
  by_cases h3 : k = 3
  · subst h3; exact step_get on sl b hc hp hd hq hI hJ hne
  by_cases h4 : k = 4
  · subst h4; exact step_cut on sl b hc hp hd hq hI hJ hne
  by_cases h5 : k = 5
  · subst h5; exact step_restore on sl b hc hp hd hq hI hJ hne
  exact step_none k h1 h2 h3 h4 h5 on sl b hc hp hd hq hI hJ hne

end

end Go.Proofs.Ytnndohdiiglgmaa.cells
