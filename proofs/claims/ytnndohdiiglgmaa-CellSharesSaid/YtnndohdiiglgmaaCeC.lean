/- A cell's Set, Erase, Get, Slots. -/
import Derived.Test.YtnndohdiiglgmaaCeB


namespace Go.Proofs.Ytnndohdiiglgmaa.cells
set_option linter.unusedVariables false
set_option linter.unusedSimpArgs false
open Go.RowKit Go.Proofs.Ytnndohdiiglgmaa.base Go.Proofs.Ytnndohdiiglgmaa.powers Go.Lib

/-- why a slot is not set, but for the power; 0: it is -/
def setF (c : CS) (sl : Int) (b : ByteArray) : Int := if sl = 0 ∨ sl = 1 then (if (c.at_ sl.toNat).size ≠ 0 then 131 else if b.size = 0 ∨ 200 < b.size then 2 else 0) else 130
/-- why a slot is not erased -/
def eraF (c : CS) (sl : Int) : Int := if sl = 0 ∨ sl = 1 then (if (c.at_ sl.toNat).size = 0 then 132 else 0) else 130
def ansF (f L : Int) : Int := if f = 0 then eSp L else f
def cellF (c : CS) (f L : Int) (k : Nat) (b : ByteArray) : CS := if f = 0 ∧ L ≠ 0 then c.put k b else c
def lF (f L : Int) : Int := if f = 0 then spL L else L
def wF (f L W : Int) : Int := if f = 0 then wSp L W else W
/-- what a raw write leaves that f refuses, or the power -/
def WPost (p g : Nat) (c : CS) (L W f : Int) (k : Nat) (b : ByteArray) (w : World) (e : Ending) (w' : World) : Prop :=
  e = .returned (.int .i64 (ansF f L)) ∧ Ce w' p g (cellF c f L k b) ∧ Blk w' p 144 (PC (lF f L) (wF f L W)) ∧ St (two p g) w w'
def getV (c : CS) (sl : Int) : ByteArray := if sl = 0 ∨ sl = 1 then c.at_ sl.toNat else ⟨#[]⟩
def getB (c : CS) (sl : Int) : Bool := decide ((sl = 0 ∨ sl = 1) ∧ (c.at_ sl.toNat).size ≠ 0)
/-- the slots that are set -/
def slN (c : CS) : Nat → List Int
  | 0 => []
  | j + 1 => slN c j ++ (if (c.at_ j).size = 0 then [] else [(j : Int)])
theorem slN_len (c : CS) : ∀ j, (slN c j).length ≤ j
  | 0 => Nat.le_refl _
  | j + 1 => by
    have := slN_len c j
    rw [slN, List.length_append]
    split <;> simp <;> omega
/-- a list of ints of the call's own -/
def LiPost (l : List Int) (w : World) (e : Ending) (w' : World) : Prop := ∃ v, e = .returned v ∧ w'.ownsRow w.heap.size 3 1 v l.length (l.map (Value.int .i64)) ∧ Below w.heap.size w w'
theorem infoInt : (Try.prog.info? 3).map (fun i => (i.zero, i.size, i.bytes)) = some (some (.int .i64 0), 1, 8) := by kernel_rfl
theorem empty_of {b : ByteArray} (h : b.size = 0) : b = ⟨#[]⟩ := by
  apply ByteArray.ext
  exact Array.eq_empty_of_size_eq_zero h
section
variable {w : World} {p g : Nat} {c : CS} {L W : Int}
theorem WPost.no (h : Ce w p g c) (hp : Blk w p 144 (PC L W)) {f : Int} (hf : f ≠ 0) (k : Nat) (b : ByteArray) : WPost p g c L W f k b w (.returned (.int .i64 f)) w := by
  unfold WPost ansF cellF lF wF
  rw [if_neg hf, if_neg (fun h => hf h.1), if_neg hf, if_neg hf]
  exact ⟨rfl, h, hp, St.refl _ _⟩
theorem WPost.yes {e : Ending} {w' : World} {k : Nat} {b : ByteArray} (h : e = .returned (.int .i64 (eSp L)) ∧ Blk w' p 144 (PC (spL L) (wSp L W)) ∧ Ce w' p g (if L = 0 then c else c.put k b) ∧ St (two p g) w w') : WPost p g c L W 0 k b w e w' := by
  obtain ⟨h1, h2, h3, h4⟩ := h
  unfold WPost ansF cellF lF wF
  rw [if_pos rfl, if_pos rfl, if_pos rfl]
  refine ⟨h1, ?_, h2, h4⟩
  by_cases hL : L = 0
  · rw [if_neg (fun h => h.2 hL)]
    rwa [if_pos hL] at h3
  · rw [if_pos ⟨rfl, hL⟩]
    rwa [if_neg hL] at h3

set_option maxRecDepth 100000 in
set_option maxHeartbeats 4000000 in
theorem set_no (h : Ce w p g c) (hp : Blk w p 144 (PC L W)) (sl : Int) (b : ByteArray) (hs : ¬ (sl = 0 ∨ sl = 1)) :
    Calls Try.prog 36 #[.pointer (some ⟨g, 0, none⟩), .int .i64 sl, .string b] w (WPost p g c L W (setF c sl b) sl.toNat b w) := by
  have hz := has_ok g sl w
  rw [decide_eq_false hs] at hz
  have hf : setF c sl b = 130 := by unfold setF; rw [if_neg hs]
  rw [hf]
  have hP := powers.lay (WPost.no h hp (f := 130) (by omega) sl.toNat b)
  clear h hp hf
  go_enter Try.func36, Try.ntmps36
  go_wp2_with (first | (go_at_call 72; refine hz.mono ?_; rintro e w ⟨rfl, rfl⟩))
  go_ret
  exact hP.out
theorem erase_no (h : Ce w p g c) (hp : Blk w p 144 (PC L W)) (sl : Int) (hs : ¬ (sl = 0 ∨ sl = 1)) :
    Calls Try.prog 34 #[.pointer (some ⟨g, 0, none⟩), .int .i64 sl] w (WPost p g c L W (eraF c sl) sl.toNat ⟨#[]⟩ w) := by
  have hz := has_ok g sl w
  rw [decide_eq_false hs] at hz
  have hf : eraF c sl = 130 := by unfold eraF; rw [if_neg hs]
  rw [hf]
  have hP := powers.lay (WPost.no h hp (f := 130) (by omega) sl.toNat ⟨#[]⟩)
  clear h hp hf
  go_enter Try.func34, Try.ntmps34
  go_wp2_with (first | (go_at_call 72; refine hz.mono ?_; rintro e w ⟨rfl, rfl⟩))
  go_ret
  exact hP.out
theorem get_no (sl : Int) (hs : ¬ (sl = 0 ∨ sl = 1)) :
    Calls Try.prog 37 #[.pointer (some ⟨g, 0, none⟩), .int .i64 sl] w fun e w' => e = .returned (.tuple #[.string (getV c sl), .bool (getB c sl)]) ∧ w' = w := by
  have hz := has_ok g sl w
  rw [decide_eq_false hs] at hz
  have h1 : getV c sl = ⟨#[]⟩ := by unfold getV; rw [if_neg hs]
  have h2 : getB c sl = false := decide_eq_false (fun h => hs h.1)
  rw [h1, h2]
  clear h1 h2
  go_enter Try.func37, Try.ntmps37
  go_wp2_with (first | (go_at_call 72; refine hz.mono ?_; rintro e w ⟨rfl, rfl⟩))
  refine bodyPost_ret (v := .tuple #[.string ⟨#[]⟩, .bool false]) (by simp [results, Try.results37, go_sem]) rfl ⟨rfl, rfl⟩

set_option maxRecDepth 100000 in
set_option maxHeartbeats 4000000 in
theorem set0 (h : Ce w p g c) (hp : Blk w p 144 (PC L W)) (hI : In L) (b : ByteArray) :
    Calls Try.prog 36 #[.pointer (some ⟨g, 0, none⟩), .int .i64 0, .string b] w (WPost p g c L W (setF c 0 b) 0 b w) := by
  have hz := has_ok g 0 w
  rw [show decide ((0 : Int) = 0 ∨ (0 : Int) = 1) = true by decide] at hz
  have hi := isSet0 h
  by_cases h0 : c.s0.size ≠ 0
  · rw [decide_eq_true h0] at hi
    have hf : setF c 0 b = 131 := by unfold setF; rw [if_pos (by omega)]; exact if_pos h0
    rw [hf]
    have hP := powers.lay (WPost.no h hp (f := 131) (by omega) 0 b)
    clear h hp hf h0
    go_enter Try.func36, Try.ntmps36
    go_wp2_with (first | (go_at_call 72; refine hz.mono ?_; rintro e w ⟨rfl, rfl⟩) | (go_at_call 73; refine hi.mono ?_; rintro e w ⟨rfl, rfl⟩))
    go_ret
    exact hP.out
  · rw [decide_eq_false h0] at hi
    by_cases hb : b.size = 0 ∨ 200 < b.size
    · have hf : setF c 0 b = 2 := by unfold setF; rw [if_pos (by omega)]; exact (if_neg h0).trans (if_pos hb)
      rw [hf]
      have hP := powers.lay (WPost.no h hp (f := 2) (by omega) 0 b)
      clear h hp hf h0
      by_cases hb0 : b.size = 0
      · have d0 : decide ((b.size : Int) = 0) = true := decide_eq_true (by omega)
        have d1 : ((b.size : Int) == 0) = true := by rw [hb0]; rfl
        clear hb hb0
        go_enter Try.func36, Try.ntmps36
        go_wp2_with (first | (go_at_call 72; refine hz.mono ?_; rintro e w ⟨rfl, rfl⟩) | (go_at_call 73; refine hi.mono ?_; rintro e w ⟨rfl, rfl⟩))
        go_ret
        exact hP.out
      · have d0 : decide ((b.size : Int) = 0) = false := decide_eq_false (by omega)
        have d1 : ((b.size : Int) == 0) = false := by rw [beq_eq_false_iff_ne]; omega
        have d2 : decide ((200 : Int) < (b.size : Int)) = true := decide_eq_true (by omega)
        have d3 : decide (200 < b.size) = true := decide_eq_true (by omega)
        clear hb hb0
        go_enter Try.func36, Try.ntmps36
        go_wp2_with (first | (go_at_call 72; refine hz.mono ?_; rintro e w ⟨rfl, rfl⟩) | (go_at_call 73; refine hi.mono ?_; rintro e w ⟨rfl, rfl⟩))
        go_ret
        exact hP.out
    · have hf : setF c 0 b = 0 := by unfold setF; rw [if_pos (by omega)]; exact (if_neg h0).trans (if_neg hb)
      rw [hf]
      have hw := write0 h hp hI b (by omega)
      have d0 : decide ((b.size : Int) = 0) = false := decide_eq_false (by omega)
      have d1 : ((b.size : Int) == 0) = false := by rw [beq_eq_false_iff_ne]; omega
      have d2 : decide ((200 : Int) < (b.size : Int)) = false := decide_eq_false (by omega)
      have d3 : decide (200 < b.size) = false := decide_eq_false (by omega)
      clear h hp hf h0 hb hI
      go_enter Try.func36, Try.ntmps36
      go_wp2_with (first | (go_at_call 72; refine hz.mono ?_; rintro e w ⟨rfl, rfl⟩) | (go_at_call 73; refine hi.mono ?_; rintro e w ⟨rfl, rfl⟩))
      refine hw.mono ?_
      rintro e w1 ⟨rfl, hh⟩
      go_wp2_with fail
      go_ret
      exact WPost.yes ⟨rfl, hh⟩
theorem erase0 (h : Ce w p g c) (hp : Blk w p 144 (PC L W)) (hI : In L) :
    Calls Try.prog 34 #[.pointer (some ⟨g, 0, none⟩), .int .i64 0] w (WPost p g c L W (eraF c 0) 0 ⟨#[]⟩ w) := by
  have hz := has_ok g 0 w
  rw [show decide ((0 : Int) = 0 ∨ (0 : Int) = 1) = true by decide] at hz
  have hi := isSet0 h
  by_cases h0 : c.s0.size ≠ 0
  · rw [decide_eq_true h0] at hi
    have hf : eraF c 0 = 0 := by unfold eraF; rw [if_pos (by omega)]; exact if_neg h0
    rw [hf]
    have hw := write0 h hp hI ⟨#[]⟩ (by decide)
    clear h hp hf h0 hI
    go_enter Try.func34, Try.ntmps34
    go_wp2_with (first | (go_at_call 72; refine hz.mono ?_; rintro e w ⟨rfl, rfl⟩) | (go_at_call 73; refine hi.mono ?_; rintro e w ⟨rfl, rfl⟩))
    refine hw.mono ?_
    rintro e w1 ⟨rfl, hh⟩
    go_wp2_with fail
    go_ret
    exact WPost.yes ⟨rfl, hh⟩
  · rw [decide_eq_false h0] at hi
    have hf : eraF c 0 = 132 := by unfold eraF; rw [if_pos (by omega)]; exact if_pos (Classical.not_not.1 h0)
    rw [hf]
    have hP := powers.lay (WPost.no h hp (f := 132) (by omega) 0 ⟨#[]⟩)
    clear h hp hf h0
    go_enter Try.func34, Try.ntmps34
    go_wp2_with (first | (go_at_call 72; refine hz.mono ?_; rintro e w ⟨rfl, rfl⟩) | (go_at_call 73; refine hi.mono ?_; rintro e w ⟨rfl, rfl⟩))
    go_ret
    exact hP.out
theorem get0 (h : Ce w p g c) :
    Calls Try.prog 37 #[.pointer (some ⟨g, 0, none⟩), .int .i64 0] w fun e w' => e = .returned (.tuple #[.string (getV c 0), .bool (getB c 0)]) ∧ St none_ w w' := by
  have hz := has_ok g 0 w
  rw [show decide ((0 : Int) = 0 ∨ (0 : Int) = 1) = true by decide] at hz
  have hi := isSet0 h
  have h1 : getV c 0 = c.s0 := by unfold getV; rw [if_pos (by omega)]; rfl
  rw [h1]
  by_cases h0 : c.s0.size ≠ 0
  · rw [decide_eq_true h0] at hi
    have h2 : getB c 0 = true := decide_eq_true ⟨by omega, h0⟩
    rw [h2]
    have hle := h.le0
    have x0 := h.used0
    have hby := h.byt0
    have lg := h.lt
    have hN := powers.lay h0
    generalize c.s0 = s at *
    clear h1 h2 h h0
    go_enter Try.func37, Try.ntmps37
    go_upto_region 4 with (first | (go_at_call 72; refine hz.mono ?_; rintro e w ⟨rfl, rfl⟩) | (go_at_call 73; refine hi.mono ?_; rintro e w ⟨rfl, rfl⟩))
    clear hz hi
    have hS0 : Below w.heap.size w w.drew := (Below.refl _ _).drew
    refine mix.region_D (fun w' => Below w.heap.size w w') (fun _ => false) (by kernel_rfl) ?_
    have hle2 : (s.size : Int) ≤ 200 := by omega
    have hex : s.extract 0 (0 + s.size) = s := by rw [Nat.zero_add]; exact ByteArray.extract_zero_size
    generalize w.drew = Wd at hS0 ⊢
    refine mix.D_take (i := 0) (v := ?_) rfl (by kernel_rfl) (by kernel_rfl) (fun _ _ _ h => h) (Or.inl ⟨by rfl, ?_⟩) hS0 ?_
    rotate_left
    · intro w' hSw
      have y0 := (hSw.cell (p := ⟨g, 201, none⟩) lg).trans x0
      have hcv := run_convert_window (P := Try.prog) w' 152 5 9 Try.underlying152 Try.underlying5 Try.underlying9 g 1 s (fun i hi => (hSw.cell (p := ⟨g, 1 + i, none⟩) lg).trans (hby i hi)) 0 s.size 200 (by omega)
      rw [hex] at hcv
      try simp only [List.getElem_toArray, List.getElem_cons_zero, List.getElem_cons_succ]
      go_simp
      exact rfl
    try simp only [Act.put, List.setIfInBounds_toArray, List.set_cons_zero, List.set_cons_succ, List.getElem_toArray, List.getElem_cons_zero, List.getElem_cons_succ]
    refine mix.D_take (i := 1) (v := ?_) rfl (by kernel_rfl) (by kernel_rfl) (fun _ _ _ h => h) (Or.inl ⟨by rfl, ?_⟩) hS0 ?_
    rotate_left
    · intro w' hSw
      have y0 := (hSw.cell (p := ⟨g, 201, none⟩) lg).trans x0
      have hcv := run_convert_window (P := Try.prog) w' 152 5 9 Try.underlying152 Try.underlying5 Try.underlying9 g 1 s (fun i hi => (hSw.cell (p := ⟨g, 1 + i, none⟩) lg).trans (hby i hi)) 0 s.size 200 (by omega)
      rw [hex] at hcv
      try simp only [List.getElem_toArray, List.getElem_cons_zero, List.getElem_cons_succ]
      go_simp
      exact rfl
    try simp only [Act.put, List.setIfInBounds_toArray, List.set_cons_zero, List.set_cons_succ, List.getElem_toArray, List.getElem_cons_zero, List.getElem_cons_succ]
    refine mix.D_take (i := 2) (v := ?_) rfl (by kernel_rfl) (by kernel_rfl) (fun _ _ _ h => h) (Or.inl ⟨by rfl, ?_⟩) hS0 ?_
    rotate_left
    · intro w' hSw
      have y0 := (hSw.cell (p := ⟨g, 201, none⟩) lg).trans x0
      have hcv := run_convert_window (P := Try.prog) w' 152 5 9 Try.underlying152 Try.underlying5 Try.underlying9 g 1 s (fun i hi => (hSw.cell (p := ⟨g, 1 + i, none⟩) lg).trans (hby i hi)) 0 s.size 200 (by omega)
      rw [hex] at hcv
      try simp only [List.getElem_toArray, List.getElem_cons_zero, List.getElem_cons_succ]
      go_simp
      exact rfl
    try simp only [Act.put, List.setIfInBounds_toArray, List.set_cons_zero, List.set_cons_succ, List.getElem_toArray, List.getElem_cons_zero, List.getElem_cons_succ]
    refine mix.D_take (i := 3) (v := ?_) rfl (by kernel_rfl) (by kernel_rfl) (fun _ _ _ h => h) (Or.inl ⟨by rfl, ?_⟩) hS0 ?_
    rotate_left
    · intro w' hSw
      have y0 := (hSw.cell (p := ⟨g, 201, none⟩) lg).trans x0
      have hcv := run_convert_window (P := Try.prog) w' 152 5 9 Try.underlying152 Try.underlying5 Try.underlying9 g 1 s (fun i hi => (hSw.cell (p := ⟨g, 1 + i, none⟩) lg).trans (hby i hi)) 0 s.size 200 (by omega)
      rw [hex] at hcv
      try simp only [List.getElem_toArray, List.getElem_cons_zero, List.getElem_cons_succ]
      go_simp
      exact rfl
    try simp only [Act.put, List.setIfInBounds_toArray, List.set_cons_zero, List.set_cons_succ, List.getElem_toArray, List.getElem_cons_zero, List.getElem_cons_succ]
    refine mix.D_take (i := 4) (v := ?_) rfl (by kernel_rfl) (by kernel_rfl) (fun _ _ _ h => h) (Or.inl ⟨by rfl, ?_⟩) hS0 ?_
    rotate_left
    · intro w' hSw
      have y0 := (hSw.cell (p := ⟨g, 201, none⟩) lg).trans x0
      have hcv := run_convert_window (P := Try.prog) w' 152 5 9 Try.underlying152 Try.underlying5 Try.underlying9 g 1 s (fun i hi => (hSw.cell (p := ⟨g, 1 + i, none⟩) lg).trans (hby i hi)) 0 s.size 200 (by omega)
      rw [hex] at hcv
      try simp only [List.getElem_toArray, List.getElem_cons_zero, List.getElem_cons_succ]
      go_simp
      exact rfl
    try simp only [Act.put, List.setIfInBounds_toArray, List.set_cons_zero, List.set_cons_succ, List.getElem_toArray, List.getElem_cons_zero, List.getElem_cons_succ]
    refine mix.D_take (i := 5) (v := ?_) rfl (by kernel_rfl) (by kernel_rfl) (fun _ _ _ h => h) (Or.inl ⟨by rfl, ?_⟩) hS0 ?_
    rotate_left
    · intro w' hSw
      have y0 := (hSw.cell (p := ⟨g, 201, none⟩) lg).trans x0
      have hcv := run_convert_window (P := Try.prog) w' 152 5 9 Try.underlying152 Try.underlying5 Try.underlying9 g 1 s (fun i hi => (hSw.cell (p := ⟨g, 1 + i, none⟩) lg).trans (hby i hi)) 0 s.size 200 (by omega)
      rw [hex] at hcv
      try simp only [List.getElem_toArray, List.getElem_cons_zero, List.getElem_cons_succ]
      go_simp
      exact rfl
    try simp only [Act.put, List.setIfInBounds_toArray, List.set_cons_zero, List.set_cons_succ, List.getElem_toArray, List.getElem_cons_zero, List.getElem_cons_succ]
    refine mix.D_take (i := 6) (v := ?_) rfl (by kernel_rfl) (by kernel_rfl) (fun _ _ _ h => h) (Or.inl ⟨by rfl, ?_⟩) hS0 ?_
    rotate_left
    · intro w' hSw
      have y0 := (hSw.cell (p := ⟨g, 201, none⟩) lg).trans x0
      have hcv := run_convert_window (P := Try.prog) w' 152 5 9 Try.underlying152 Try.underlying5 Try.underlying9 g 1 s (fun i hi => (hSw.cell (p := ⟨g, 1 + i, none⟩) lg).trans (hby i hi)) 0 s.size 200 (by omega)
      rw [hex] at hcv
      try simp only [List.getElem_toArray, List.getElem_cons_zero, List.getElem_cons_succ]
      go_simp
      exact rfl
    try simp only [Act.put, List.setIfInBounds_toArray, List.set_cons_zero, List.set_cons_succ, List.getElem_toArray, List.getElem_cons_zero, List.getElem_cons_succ]
    refine mix.D_take (i := 7) (v := ?_) rfl (by kernel_rfl) (by kernel_rfl) (fun _ _ _ h => h) (Or.inl ⟨by rfl, ?_⟩) hS0 ?_
    rotate_left
    · intro w' hSw
      have y0 := (hSw.cell (p := ⟨g, 201, none⟩) lg).trans x0
      have hcv := run_convert_window (P := Try.prog) w' 152 5 9 Try.underlying152 Try.underlying5 Try.underlying9 g 1 s (fun i hi => (hSw.cell (p := ⟨g, 1 + i, none⟩) lg).trans (hby i hi)) 0 s.size 200 (by omega)
      rw [hex] at hcv
      try simp only [List.getElem_toArray, List.getElem_cons_zero, List.getElem_cons_succ]
      go_simp
      exact rfl
    try simp only [Act.put, List.setIfInBounds_toArray, List.set_cons_zero, List.set_cons_succ, List.getElem_toArray, List.getElem_cons_zero, List.getElem_cons_succ]
    refine mix.D_take (i := 8) (v := ?_) rfl (by kernel_rfl) (by kernel_rfl) (fun _ _ _ h => h) (Or.inl ⟨by rfl, ?_⟩) hS0 ?_
    rotate_left
    · intro w' hSw
      have y0 := (hSw.cell (p := ⟨g, 201, none⟩) lg).trans x0
      have hcv := run_convert_window (P := Try.prog) w' 152 5 9 Try.underlying152 Try.underlying5 Try.underlying9 g 1 s (fun i hi => (hSw.cell (p := ⟨g, 1 + i, none⟩) lg).trans (hby i hi)) 0 s.size 200 (by omega)
      rw [hex] at hcv
      try simp only [List.getElem_toArray, List.getElem_cons_zero, List.getElem_cons_succ]
      go_simp
      exact rfl
    try simp only [Act.put, List.setIfInBounds_toArray, List.set_cons_zero, List.set_cons_succ, List.getElem_toArray, List.getElem_cons_zero, List.getElem_cons_succ]
    refine mix.D_take (i := 9) (v := ?_) rfl (by kernel_rfl) (by kernel_rfl) (fun _ _ _ h => h) (Or.inl ⟨by rfl, ?_⟩) hS0 ?_
    rotate_left
    · intro w' hSw
      have y0 := (hSw.cell (p := ⟨g, 201, none⟩) lg).trans x0
      have hcv := run_convert_window (P := Try.prog) w' 152 5 9 Try.underlying152 Try.underlying5 Try.underlying9 g 1 s (fun i hi => (hSw.cell (p := ⟨g, 1 + i, none⟩) lg).trans (hby i hi)) 0 s.size 200 (by omega)
      rw [hex] at hcv
      try simp only [List.getElem_toArray, List.getElem_cons_zero, List.getElem_cons_succ]
      go_simp
      exact rfl
    try simp only [Act.put, List.setIfInBounds_toArray, List.set_cons_zero, List.set_cons_succ, List.getElem_toArray, List.getElem_cons_zero, List.getElem_cons_succ]
    refine mix.D_take (i := 10) (v := ?_) rfl (by kernel_rfl) (by kernel_rfl) (fun _ _ _ h => h) (Or.inl ⟨by rfl, ?_⟩) hS0 ?_
    rotate_left
    · intro w' hSw
      have y0 := (hSw.cell (p := ⟨g, 201, none⟩) lg).trans x0
      have hcv := run_convert_window (P := Try.prog) w' 152 5 9 Try.underlying152 Try.underlying5 Try.underlying9 g 1 s (fun i hi => (hSw.cell (p := ⟨g, 1 + i, none⟩) lg).trans (hby i hi)) 0 s.size 200 (by omega)
      rw [hex] at hcv
      try simp only [List.getElem_toArray, List.getElem_cons_zero, List.getElem_cons_succ]
      go_simp
      exact rfl
    try simp only [Act.put, List.setIfInBounds_toArray, List.set_cons_zero, List.set_cons_succ, List.getElem_toArray, List.getElem_cons_zero, List.getElem_cons_succ]
    refine mix.D_done (by kernel_rfl) ?_ _
    try simp only [Act.put, List.setIfInBounds_toArray, List.set_cons_zero, List.set_cons_succ]
    go_wp2_with fail
    refine bodyPost_ret (v := .tuple #[.string s, .bool true]) (by simp [results, Try.results37, go_sem]) rfl ⟨rfl, hS0.os, hS0.tape, hS0.output, hS0.size, fun k hk _ => hS0.block k hk⟩
  · rw [decide_eq_false h0] at hi
    have h2 : getB c 0 = false := decide_eq_false (fun h => h0 h.2)
    rw [h2, empty_of (Classical.not_not.1 h0)]
    clear h1 h2 h h0
    go_enter Try.func37, Try.ntmps37
    go_wp2_with (first | (go_at_call 72; refine hz.mono ?_; rintro e w ⟨rfl, rfl⟩) | (go_at_call 73; refine hi.mono ?_; rintro e w ⟨rfl, rfl⟩))
    refine bodyPost_ret (v := .tuple #[.string ⟨#[]⟩, .bool false]) (by simp [results, Try.results37, go_sem]) rfl ⟨rfl, St.refl _ _⟩

set_option maxRecDepth 100000 in
set_option maxHeartbeats 4000000 in
theorem set1 (h : Ce w p g c) (hp : Blk w p 144 (PC L W)) (hI : In L) (b : ByteArray) :
    Calls Try.prog 36 #[.pointer (some ⟨g, 0, none⟩), .int .i64 1, .string b] w (WPost p g c L W (setF c 1 b) 1 b w) := by
  have hz := has_ok g 1 w
  rw [show decide ((1 : Int) = 0 ∨ (1 : Int) = 1) = true by decide] at hz
  have hi := isSet1 h
  by_cases h0 : c.s1.size ≠ 0
  · rw [decide_eq_true h0] at hi
    have hf : setF c 1 b = 131 := by unfold setF; rw [if_pos (by omega)]; exact if_pos h0
    rw [hf]
    have hP := powers.lay (WPost.no h hp (f := 131) (by omega) 1 b)
    clear h hp hf h0
    go_enter Try.func36, Try.ntmps36
    go_wp2_with (first | (go_at_call 72; refine hz.mono ?_; rintro e w ⟨rfl, rfl⟩) | (go_at_call 73; refine hi.mono ?_; rintro e w ⟨rfl, rfl⟩))
    go_ret
    exact hP.out
  · rw [decide_eq_false h0] at hi
    by_cases hb : b.size = 0 ∨ 200 < b.size
    · have hf : setF c 1 b = 2 := by unfold setF; rw [if_pos (by omega)]; exact (if_neg h0).trans (if_pos hb)
      rw [hf]
      have hP := powers.lay (WPost.no h hp (f := 2) (by omega) 1 b)
      clear h hp hf h0
      by_cases hb0 : b.size = 0
      · have d0 : decide ((b.size : Int) = 0) = true := decide_eq_true (by omega)
        have d1 : ((b.size : Int) == 0) = true := by rw [hb0]; rfl
        clear hb hb0
        go_enter Try.func36, Try.ntmps36
        go_wp2_with (first | (go_at_call 72; refine hz.mono ?_; rintro e w ⟨rfl, rfl⟩) | (go_at_call 73; refine hi.mono ?_; rintro e w ⟨rfl, rfl⟩))
        go_ret
        exact hP.out
      · have d0 : decide ((b.size : Int) = 0) = false := decide_eq_false (by omega)
        have d1 : ((b.size : Int) == 0) = false := by rw [beq_eq_false_iff_ne]; omega
        have d2 : decide ((200 : Int) < (b.size : Int)) = true := decide_eq_true (by omega)
        have d3 : decide (200 < b.size) = true := decide_eq_true (by omega)
        clear hb hb0
        go_enter Try.func36, Try.ntmps36
        go_wp2_with (first | (go_at_call 72; refine hz.mono ?_; rintro e w ⟨rfl, rfl⟩) | (go_at_call 73; refine hi.mono ?_; rintro e w ⟨rfl, rfl⟩))
        go_ret
        exact hP.out
    · have hf : setF c 1 b = 0 := by unfold setF; rw [if_pos (by omega)]; exact (if_neg h0).trans (if_neg hb)
      rw [hf]
      have hw := write1 h hp hI b (by omega)
      have d0 : decide ((b.size : Int) = 0) = false := decide_eq_false (by omega)
      have d1 : ((b.size : Int) == 0) = false := by rw [beq_eq_false_iff_ne]; omega
      have d2 : decide ((200 : Int) < (b.size : Int)) = false := decide_eq_false (by omega)
      have d3 : decide (200 < b.size) = false := decide_eq_false (by omega)
      clear h hp hf h0 hb hI
      go_enter Try.func36, Try.ntmps36
      go_wp2_with (first | (go_at_call 72; refine hz.mono ?_; rintro e w ⟨rfl, rfl⟩) | (go_at_call 73; refine hi.mono ?_; rintro e w ⟨rfl, rfl⟩))
      refine hw.mono ?_
      rintro e w1 ⟨rfl, hh⟩
      go_wp2_with fail
      go_ret
      exact WPost.yes ⟨rfl, hh⟩
theorem erase1 (h : Ce w p g c) (hp : Blk w p 144 (PC L W)) (hI : In L) :
    Calls Try.prog 34 #[.pointer (some ⟨g, 0, none⟩), .int .i64 1] w (WPost p g c L W (eraF c 1) 1 ⟨#[]⟩ w) := by
  have hz := has_ok g 1 w
  rw [show decide ((1 : Int) = 0 ∨ (1 : Int) = 1) = true by decide] at hz
  have hi := isSet1 h
  by_cases h0 : c.s1.size ≠ 0
  · rw [decide_eq_true h0] at hi
    have hf : eraF c 1 = 0 := by unfold eraF; rw [if_pos (by omega)]; exact if_neg h0
    rw [hf]
    have hw := write1 h hp hI ⟨#[]⟩ (by decide)
    clear h hp hf h0 hI
    go_enter Try.func34, Try.ntmps34
    go_wp2_with (first | (go_at_call 72; refine hz.mono ?_; rintro e w ⟨rfl, rfl⟩) | (go_at_call 73; refine hi.mono ?_; rintro e w ⟨rfl, rfl⟩))
    refine hw.mono ?_
    rintro e w1 ⟨rfl, hh⟩
    go_wp2_with fail
    go_ret
    exact WPost.yes ⟨rfl, hh⟩
  · rw [decide_eq_false h0] at hi
    have hf : eraF c 1 = 132 := by unfold eraF; rw [if_pos (by omega)]; exact if_pos (Classical.not_not.1 h0)
    rw [hf]
    have hP := powers.lay (WPost.no h hp (f := 132) (by omega) 1 ⟨#[]⟩)
    clear h hp hf h0
    go_enter Try.func34, Try.ntmps34
    go_wp2_with (first | (go_at_call 72; refine hz.mono ?_; rintro e w ⟨rfl, rfl⟩) | (go_at_call 73; refine hi.mono ?_; rintro e w ⟨rfl, rfl⟩))
    go_ret
    exact hP.out
theorem get1 (h : Ce w p g c) :
    Calls Try.prog 37 #[.pointer (some ⟨g, 0, none⟩), .int .i64 1] w fun e w' => e = .returned (.tuple #[.string (getV c 1), .bool (getB c 1)]) ∧ St none_ w w' := by
  have hz := has_ok g 1 w
  rw [show decide ((1 : Int) = 0 ∨ (1 : Int) = 1) = true by decide] at hz
  have hi := isSet1 h
  have h1 : getV c 1 = c.s1 := by unfold getV; rw [if_pos (by omega)]; rfl
  rw [h1]
  by_cases h0 : c.s1.size ≠ 0
  · rw [decide_eq_true h0] at hi
    have h2 : getB c 1 = true := decide_eq_true ⟨by omega, h0⟩
    rw [h2]
    have hle := h.le1
    have x0 := h.used1
    have hby := h.byt1
    have lg := h.lt
    have hN := powers.lay h0
    generalize c.s1 = s at *
    clear h1 h2 h h0
    go_enter Try.func37, Try.ntmps37
    go_upto_region 4 with (first | (go_at_call 72; refine hz.mono ?_; rintro e w ⟨rfl, rfl⟩) | (go_at_call 73; refine hi.mono ?_; rintro e w ⟨rfl, rfl⟩))
    clear hz hi
    have hS0 : Below w.heap.size w w.drew := (Below.refl _ _).drew
    refine mix.region_D (fun w' => Below w.heap.size w w') (fun _ => false) (by kernel_rfl) ?_
    have hle2 : (s.size : Int) ≤ 200 := by omega
    have hex : s.extract 0 (0 + s.size) = s := by rw [Nat.zero_add]; exact ByteArray.extract_zero_size
    generalize w.drew = Wd at hS0 ⊢
    refine mix.D_take (i := 0) (v := ?_) rfl (by kernel_rfl) (by kernel_rfl) (fun _ _ _ h => h) (Or.inl ⟨by rfl, ?_⟩) hS0 ?_
    rotate_left
    · intro w' hSw
      have y0 := (hSw.cell (p := ⟨g, 402, none⟩) lg).trans x0
      have hcv := run_convert_window (P := Try.prog) w' 152 5 9 Try.underlying152 Try.underlying5 Try.underlying9 g 202 s (fun i hi => (hSw.cell (p := ⟨g, 202 + i, none⟩) lg).trans (hby i hi)) 0 s.size 200 (by omega)
      rw [hex] at hcv
      try simp only [List.getElem_toArray, List.getElem_cons_zero, List.getElem_cons_succ]
      go_simp
      exact rfl
    try simp only [Act.put, List.setIfInBounds_toArray, List.set_cons_zero, List.set_cons_succ, List.getElem_toArray, List.getElem_cons_zero, List.getElem_cons_succ]
    refine mix.D_take (i := 1) (v := ?_) rfl (by kernel_rfl) (by kernel_rfl) (fun _ _ _ h => h) (Or.inl ⟨by rfl, ?_⟩) hS0 ?_
    rotate_left
    · intro w' hSw
      have y0 := (hSw.cell (p := ⟨g, 402, none⟩) lg).trans x0
      have hcv := run_convert_window (P := Try.prog) w' 152 5 9 Try.underlying152 Try.underlying5 Try.underlying9 g 202 s (fun i hi => (hSw.cell (p := ⟨g, 202 + i, none⟩) lg).trans (hby i hi)) 0 s.size 200 (by omega)
      rw [hex] at hcv
      try simp only [List.getElem_toArray, List.getElem_cons_zero, List.getElem_cons_succ]
      go_simp
      exact rfl
    try simp only [Act.put, List.setIfInBounds_toArray, List.set_cons_zero, List.set_cons_succ, List.getElem_toArray, List.getElem_cons_zero, List.getElem_cons_succ]
    refine mix.D_take (i := 2) (v := ?_) rfl (by kernel_rfl) (by kernel_rfl) (fun _ _ _ h => h) (Or.inl ⟨by rfl, ?_⟩) hS0 ?_
    rotate_left
    · intro w' hSw
      have y0 := (hSw.cell (p := ⟨g, 402, none⟩) lg).trans x0
      have hcv := run_convert_window (P := Try.prog) w' 152 5 9 Try.underlying152 Try.underlying5 Try.underlying9 g 202 s (fun i hi => (hSw.cell (p := ⟨g, 202 + i, none⟩) lg).trans (hby i hi)) 0 s.size 200 (by omega)
      rw [hex] at hcv
      try simp only [List.getElem_toArray, List.getElem_cons_zero, List.getElem_cons_succ]
      go_simp
      exact rfl
    try simp only [Act.put, List.setIfInBounds_toArray, List.set_cons_zero, List.set_cons_succ, List.getElem_toArray, List.getElem_cons_zero, List.getElem_cons_succ]
    refine mix.D_take (i := 3) (v := ?_) rfl (by kernel_rfl) (by kernel_rfl) (fun _ _ _ h => h) (Or.inl ⟨by rfl, ?_⟩) hS0 ?_
    rotate_left
    · intro w' hSw
      have y0 := (hSw.cell (p := ⟨g, 402, none⟩) lg).trans x0
      have hcv := run_convert_window (P := Try.prog) w' 152 5 9 Try.underlying152 Try.underlying5 Try.underlying9 g 202 s (fun i hi => (hSw.cell (p := ⟨g, 202 + i, none⟩) lg).trans (hby i hi)) 0 s.size 200 (by omega)
      rw [hex] at hcv
      try simp only [List.getElem_toArray, List.getElem_cons_zero, List.getElem_cons_succ]
      go_simp
      exact rfl
    try simp only [Act.put, List.setIfInBounds_toArray, List.set_cons_zero, List.set_cons_succ, List.getElem_toArray, List.getElem_cons_zero, List.getElem_cons_succ]
    refine mix.D_take (i := 4) (v := ?_) rfl (by kernel_rfl) (by kernel_rfl) (fun _ _ _ h => h) (Or.inl ⟨by rfl, ?_⟩) hS0 ?_
    rotate_left
    · intro w' hSw
      have y0 := (hSw.cell (p := ⟨g, 402, none⟩) lg).trans x0
      have hcv := run_convert_window (P := Try.prog) w' 152 5 9 Try.underlying152 Try.underlying5 Try.underlying9 g 202 s (fun i hi => (hSw.cell (p := ⟨g, 202 + i, none⟩) lg).trans (hby i hi)) 0 s.size 200 (by omega)
      rw [hex] at hcv
      try simp only [List.getElem_toArray, List.getElem_cons_zero, List.getElem_cons_succ]
      go_simp
      exact rfl
    try simp only [Act.put, List.setIfInBounds_toArray, List.set_cons_zero, List.set_cons_succ, List.getElem_toArray, List.getElem_cons_zero, List.getElem_cons_succ]
    refine mix.D_take (i := 5) (v := ?_) rfl (by kernel_rfl) (by kernel_rfl) (fun _ _ _ h => h) (Or.inl ⟨by rfl, ?_⟩) hS0 ?_
    rotate_left
    · intro w' hSw
      have y0 := (hSw.cell (p := ⟨g, 402, none⟩) lg).trans x0
      have hcv := run_convert_window (P := Try.prog) w' 152 5 9 Try.underlying152 Try.underlying5 Try.underlying9 g 202 s (fun i hi => (hSw.cell (p := ⟨g, 202 + i, none⟩) lg).trans (hby i hi)) 0 s.size 200 (by omega)
      rw [hex] at hcv
      try simp only [List.getElem_toArray, List.getElem_cons_zero, List.getElem_cons_succ]
      go_simp
      exact rfl
    try simp only [Act.put, List.setIfInBounds_toArray, List.set_cons_zero, List.set_cons_succ, List.getElem_toArray, List.getElem_cons_zero, List.getElem_cons_succ]
    refine mix.D_take (i := 6) (v := ?_) rfl (by kernel_rfl) (by kernel_rfl) (fun _ _ _ h => h) (Or.inl ⟨by rfl, ?_⟩) hS0 ?_
    rotate_left
    · intro w' hSw
      have y0 := (hSw.cell (p := ⟨g, 402, none⟩) lg).trans x0
      have hcv := run_convert_window (P := Try.prog) w' 152 5 9 Try.underlying152 Try.underlying5 Try.underlying9 g 202 s (fun i hi => (hSw.cell (p := ⟨g, 202 + i, none⟩) lg).trans (hby i hi)) 0 s.size 200 (by omega)
      rw [hex] at hcv
      try simp only [List.getElem_toArray, List.getElem_cons_zero, List.getElem_cons_succ]
      go_simp
      exact rfl
    try simp only [Act.put, List.setIfInBounds_toArray, List.set_cons_zero, List.set_cons_succ, List.getElem_toArray, List.getElem_cons_zero, List.getElem_cons_succ]
    refine mix.D_take (i := 7) (v := ?_) rfl (by kernel_rfl) (by kernel_rfl) (fun _ _ _ h => h) (Or.inl ⟨by rfl, ?_⟩) hS0 ?_
    rotate_left
    · intro w' hSw
      have y0 := (hSw.cell (p := ⟨g, 402, none⟩) lg).trans x0
      have hcv := run_convert_window (P := Try.prog) w' 152 5 9 Try.underlying152 Try.underlying5 Try.underlying9 g 202 s (fun i hi => (hSw.cell (p := ⟨g, 202 + i, none⟩) lg).trans (hby i hi)) 0 s.size 200 (by omega)
      rw [hex] at hcv
      try simp only [List.getElem_toArray, List.getElem_cons_zero, List.getElem_cons_succ]
      go_simp
      exact rfl
    try simp only [Act.put, List.setIfInBounds_toArray, List.set_cons_zero, List.set_cons_succ, List.getElem_toArray, List.getElem_cons_zero, List.getElem_cons_succ]
    refine mix.D_take (i := 8) (v := ?_) rfl (by kernel_rfl) (by kernel_rfl) (fun _ _ _ h => h) (Or.inl ⟨by rfl, ?_⟩) hS0 ?_
    rotate_left
    · intro w' hSw
      have y0 := (hSw.cell (p := ⟨g, 402, none⟩) lg).trans x0
      have hcv := run_convert_window (P := Try.prog) w' 152 5 9 Try.underlying152 Try.underlying5 Try.underlying9 g 202 s (fun i hi => (hSw.cell (p := ⟨g, 202 + i, none⟩) lg).trans (hby i hi)) 0 s.size 200 (by omega)
      rw [hex] at hcv
      try simp only [List.getElem_toArray, List.getElem_cons_zero, List.getElem_cons_succ]
      go_simp
      exact rfl
    try simp only [Act.put, List.setIfInBounds_toArray, List.set_cons_zero, List.set_cons_succ, List.getElem_toArray, List.getElem_cons_zero, List.getElem_cons_succ]
    refine mix.D_take (i := 9) (v := ?_) rfl (by kernel_rfl) (by kernel_rfl) (fun _ _ _ h => h) (Or.inl ⟨by rfl, ?_⟩) hS0 ?_
    rotate_left
    · intro w' hSw
      have y0 := (hSw.cell (p := ⟨g, 402, none⟩) lg).trans x0
      have hcv := run_convert_window (P := Try.prog) w' 152 5 9 Try.underlying152 Try.underlying5 Try.underlying9 g 202 s (fun i hi => (hSw.cell (p := ⟨g, 202 + i, none⟩) lg).trans (hby i hi)) 0 s.size 200 (by omega)
      rw [hex] at hcv
      try simp only [List.getElem_toArray, List.getElem_cons_zero, List.getElem_cons_succ]
      go_simp
      exact rfl
    try simp only [Act.put, List.setIfInBounds_toArray, List.set_cons_zero, List.set_cons_succ, List.getElem_toArray, List.getElem_cons_zero, List.getElem_cons_succ]
    refine mix.D_take (i := 10) (v := ?_) rfl (by kernel_rfl) (by kernel_rfl) (fun _ _ _ h => h) (Or.inl ⟨by rfl, ?_⟩) hS0 ?_
    rotate_left
    · intro w' hSw
      have y0 := (hSw.cell (p := ⟨g, 402, none⟩) lg).trans x0
      have hcv := run_convert_window (P := Try.prog) w' 152 5 9 Try.underlying152 Try.underlying5 Try.underlying9 g 202 s (fun i hi => (hSw.cell (p := ⟨g, 202 + i, none⟩) lg).trans (hby i hi)) 0 s.size 200 (by omega)
      rw [hex] at hcv
      try simp only [List.getElem_toArray, List.getElem_cons_zero, List.getElem_cons_succ]
      go_simp
      exact rfl
    try simp only [Act.put, List.setIfInBounds_toArray, List.set_cons_zero, List.set_cons_succ, List.getElem_toArray, List.getElem_cons_zero, List.getElem_cons_succ]
    refine mix.D_done (by kernel_rfl) ?_ _
    try simp only [Act.put, List.setIfInBounds_toArray, List.set_cons_zero, List.set_cons_succ]
    go_wp2_with fail
    refine bodyPost_ret (v := .tuple #[.string s, .bool true]) (by simp [results, Try.results37, go_sem]) rfl ⟨rfl, hS0.os, hS0.tape, hS0.output, hS0.size, fun k hk _ => hS0.block k hk⟩
  · rw [decide_eq_false h0] at hi
    have h2 : getB c 1 = false := decide_eq_false (fun h => h0 h.2)
    rw [h2, empty_of (Classical.not_not.1 h0)]
    clear h1 h2 h h0
    go_enter Try.func37, Try.ntmps37
    go_wp2_with (first | (go_at_call 72; refine hz.mono ?_; rintro e w ⟨rfl, rfl⟩) | (go_at_call 73; refine hi.mono ?_; rintro e w ⟨rfl, rfl⟩))
    refine bodyPost_ret (v := .tuple #[.string ⟨#[]⟩, .bool false]) (by simp [results, Try.results37, go_sem]) rfl ⟨rfl, St.refl _ _⟩

end
end Go.Proofs.Ytnndohdiiglgmaa.cells
