/- Cache's New, Kept, Hits, Wipe, Pin, Unpin. -/
import Derived.Test.YtoenkkbcpafanaaA24
import Derived.Test.YtoenkkbcpafanaaA16
import Derived.Test.YtoenkkbcpafanaaA03
import Derived.BigQuiet
import Derived.Deep.QuietTactic
import Derived.Test.YtoenkkbcpafanaaA05


namespace Go.Proofs.Ytoenkkbcpafanaa.caches
set_option linter.unusedVariables false
set_option linter.unusedSimpArgs false
open Go.RowKit Go.Proofs.Ytoenkkbcpafanaa.base Go.Proofs.Ytoenkkbcpafanaa.vers Go.Proofs.Ytoenkkbcpafanaa.nodes Go.Proofs.Ytoenkkbcpafanaa.trees

/-- one turned -/
def repL {α : Type} (φ : α → α) (l : List α) (i : Nat) : List α := l.take i ++ (l[i]?.map φ).toList ++ l.drop (i + 1)
theorem repL_eq {α : Type} (φ : α → α) (l : List α) {i : Nat} (hi : i < l.length) : repL φ l i = l.take i ++ φ l[i] :: l.drop (i + 1) := by unfold repL; rw [List.getElem?_eq_getElem hi]; simp
theorem repL_len {α : Type} (φ : α → α) (l : List α) {i : Nat} (hi : i < l.length) : (repL φ l i).length = l.length := by rw [repL_eq φ l hi]; simp; omega
theorem repL_map {α β : Type} (μ : α → β) (φ : α → α) (ψ : β → β) (hm : ∀ x, μ (φ x) = ψ (μ x)) (l : List α) {i : Nat} (hi : i < l.length) : (repL φ l i).map μ = repL ψ (l.map μ) i := by
  rw [repL_eq φ l hi, repL_eq ψ (l.map μ) (by simpa using hi)]
  simp [List.map_take, List.map_drop, hm]
def withPins (k : Nat) (x : PH) : PH := (x.1, x.2.1, k)
def H.pins (k : Nat) (x : H) : H := ⟨x.r, x.n, k, x.F⟩
theorem cellsH_pin (a t : List H) (x : H) (k : Nat) : (cellsH (a ++ x :: t)).set (a.length * 8 + 7) (.int .i64 (k : Int)) = cellsH (a ++ x.pins k :: t) := by
  have hl := cellsH_len a
  rw [cellsH_app, cellsH_app, cellsH, cellsH, List.set_append_right _ _ (by rw [hl]; omega), hl]
  simp only [Nat.add_sub_cancel_left]
  rfl
section
variable {w w' w2 : World} {p g room f m f' m' : Nat} {Z : Nat → Prop} {l l' : List H}
theorem Ca.pin (h : Ca w p g Z room f m l) {i : Nat} (hi : i < l.length) (k : Nat) : Ca (w.setCell ⟨g, i * 8 + 7, none⟩ (.int .i64 (k : Int))) p g Z room f m (repL (H.pins k) l i) ∧ Keep (fun b => b = g) w (w.setCell ⟨g, i * 8 + 7, none⟩ (.int .i64 (k : Int))) := by
  have hl : (l.take i).length = i := by rw [List.length_take]; omega
  have e : l = l.take i ++ l[i] :: l.drop (i + 1) := by rw [← List.drop_eq_getElem_cons hi, List.take_append_drop]
  have hk := keep_p w g (i * 8 + 7) (.int .i64 (k : Int))
  refine ⟨?_, hk⟩
  rw [repL_eq _ l hi]
  have hlen : (l.take i ++ l[i].pins k :: l.drop (i + 1)).length = l.length := by simp; omega
  have hrow := (h.row.stored (i * 8 + 7) (.int .i64 (k : Int))).1
  have hrow2 : (w.setCell ⟨g, i * 8 + 7, none⟩ (.int .i64 (k : Int))).ownsRow 0 110 8 (.slice (some ⟨g, 0, none⟩) l.length room) l.length (cellsH (l.take i ++ l[i].pins k :: l.drop (i + 1))) := by
    have h1 := cellsH_pin (l.take i) (l.drop (i + 1)) l[i] k
    rw [hl, ← e] at h1
    rw [← h1]
    exact hrow
  have hmem : ∀ x ∈ l.take i ++ l[i].pins k :: l.drop (i + 1), ∃ y ∈ l, x.n = y.n ∧ x.F = y.F ∧ x.r = y.r := fun x hx => by
    rcases List.mem_append.1 hx with h1 | h1
    · exact ⟨x, List.mem_of_mem_take h1, rfl, rfl, rfl⟩
    · rcases List.mem_cons.1 h1 with h1 | h1
      · exact ⟨l[i], List.getElem_mem hi, by rw [h1]; rfl, by rw [h1]; rfl, by rw [h1]; rfl⟩
      · exact ⟨x, List.mem_of_mem_drop h1, rfl, rfl, rfl⟩
  refine ⟨by rw [hlen]; exact hk.blk h.blk (fun e => h.ne e.symm), by rw [hlen]; exact hrow2, h.cap, h.ne, fun b hb => by simpa using h.zlt b hb, h.zp, h.zg, fun x hx => ?_, ?_, fun x hx => ?_⟩
  · obtain ⟨y, hy, e1, e2, _⟩ := hmem x hx
    rw [e1, e2]
    exact ⟨(h.node y hy).1.agree (hk.agree fun b hb => ⟨h.zlt b ((h.node y hy).2 b hb).1, ((h.node y hy).2 b hb).2.2⟩), (h.node y hy).2⟩
  · have hp := h.apart
    rw [e] at hp
    simp only [List.pairwise_append, List.pairwise_cons] at hp ⊢
    obtain ⟨h1, ⟨h2, h3⟩, h4⟩ := hp
    refine ⟨h1, ⟨h2, h3⟩, fun x hx y hy => ?_⟩
    rcases List.mem_cons.1 hy with e1 | e1
    · subst e1
      exact h4 x hx l[i] (List.mem_cons_self)
    · exact h4 x hx y (List.mem_cons_of_mem _ e1)
  · obtain ⟨y, hy, _, _, e3⟩ := hmem x hx
    rw [e3]
    exact h.fits y hy
set_option maxRecDepth 100000 in
set_option maxHeartbeats 4000000 in
theorem kept_ok (h : Ca w p g Z room f m l) : Calls Try.prog 51 #[.pointer (some ⟨p, 0, none⟩)] w fun e w' => e = .returned (.int .i64 (l.length : Int)) ∧ Below w.heap.size w w' := by
  obtain ⟨hp, hg, x0, _, _, _⟩ := h.head
  clear h
  go_enter Try.func51, Try.ntmps51
  go_wp2_with fail
  go_ret
  exact ⟨rfl, Below.refl _ _⟩
set_option maxRecDepth 100000 in
set_option maxHeartbeats 4000000 in
theorem hits_ok (h : Ca w p g Z room f m l) : Calls Try.prog 50 #[.pointer (some ⟨p, 0, none⟩)] w fun e w' => e = .returned (.tuple #[.int .i64 (f : Int), .int .i64 (m : Int)]) ∧ Below w.heap.size w w' := by
  obtain ⟨hp, hg, _, _, x2, x3⟩ := h.head
  clear h
  go_enter Try.func50, Try.ntmps50
  go_upto_region 1 with (fail)
  go_quiet (fail)
  go_wp2_with fail
  refine bodyPost_ret (v := .tuple #[.int .i64 (f : Int), .int .i64 (m : Int)]) (by simp [results, Try.results50, go_sem]) rfl ⟨rfl, below_drewN _ _⟩
set_option maxRecDepth 100000 in
set_option maxHeartbeats 4000000 in
theorem wipeAll_ok (h : Ca w p g Z room f m l) : Calls Try.prog 45 #[.pointer (some ⟨p, 0, none⟩)] w fun e w' => e = .returned (.tuple #[]) ∧ Ca w' p g Z room f m [] ∧ Keep Z w w' := by
  obtain ⟨hp, hg, x0, _, _, _⟩ := h.head
  have hFG := forget_any [] l g room room w h.row (by have := h.len; have := h.cap; simp only [List.nil_append]; omega) (fun y hy => (h.node y hy).1) (fun y hy b hb => h.zlt b ((h.node y hy).2 b hb).1) (fun y hy b hb => ((h.node y hy).2 b hb).2.2) h.apart
  simp only [List.length_nil, Nat.zero_mul] at hFG
  have HF := vers.lay hFG
  have HH := vers.lay h
  have hlen := h.len
  clear hFG h
  have o1 : (0 : Int) ≤ (room : Int) := by omega
  have o2 : (0 : Int) ≤ (l.length : Int) := by omega
  go_enter Try.func45, Try.ntmps45
  go_upto_region 1 with (go_at_call 120; refine HF.out.mono ?_; rintro e2 w2 ⟨rfl, hr2, k2⟩)
  obtain ⟨c2, z2⟩ := Ca.shorter (A := []) (L := l) (w' := w2) HH.out hr2 k2
  have kp := k2.blk HH.out.blk (by rintro (e | ⟨y, hy, e⟩); exact HH.out.ne e.symm; exact ((HH.out.node y hy).2 p e).2.1 rfl)
  have x2 := kp.cell 0
  have f2 := kp.frozen 0
  have l2 := kp.lt
  simp only [List.getElem?_toArray, List.getElem?_cons_zero, List.getElem?_cons_succ] at x2
  have HC2 := vers.lay c2
  have HZ2 := vers.lay z2
  clear c2 z2 hr2 k2 kp x0
  go_wp2_with fail
  refine bodyPost_end (v := .tuple #[]) (by simp [results, Try.results45, go_sem]) rfl ⟨rfl, HC2.out, HZ2.out⟩
def pinP (l : List PH) (r : R) : Int × List PH := match atR l r with
  | none => (3, l)
  | some i => (0, repL (withPins (pinsAt l i + 1)) l i)
def unpinP (l : List PH) (r : R) : Int × List PH := match atR l r with
  | none => (3, l)
  | some i => if pinsAt l i = 0 then (150, l) else (0, repL (withPins (pinsAt l i - 1)) l i)
theorem pinsAt_map (l : List H) {i : Nat} (hi : i < l.length) : pinsAt (l.map H.ph) i = l[i].p := by unfold pinsAt; rw [List.getElem?_map, List.getElem?_eq_getElem hi]; rfl
theorem pins_map (k : Nat) (l : List H) {i : Nat} (hi : i < l.length) : (repL (H.pins k) l i).map H.ph = repL (withPins k) (l.map H.ph) i := repL_map H.ph (H.pins k) (withPins k) (fun _ => rfl) l hi

set_option maxRecDepth 100000 in
set_option maxHeartbeats 4000000 in
theorem pin_ok (h : Ca w p g Z room f m l) (rk : Nat) (rg ro rn : Int) (hp : ∀ x ∈ l, x.p < 4611686018427387904) :
    Calls Try.prog 38 #[.pointer (some ⟨p, 0, none⟩), .agg #[.int .u64 (rk : Int), .int .i64 rg, .int .i64 ro, .int .i64 rn]] w fun e w' => ∃ (E : Int) (l' : List H), e = .returned (.int .i64 E) ∧ (E, l'.map H.ph) = pinP (l.map H.ph) ⟨rk, rg, ro, rn⟩ ∧ Ca w' p g Z room f m l' ∧ Keep Z w w' := by
  have HP := vers.lay hp
  clear hp
  have bA : Below w.heap.size w (w.alloc (.cells #[.int .u64 (rk : Int), .int .i64 rg, .int .i64 ro, .int .i64 rn] 27)) := (Below.refl _ _).alloc (Nat.le_refl _) _
  have k1 := Blk.new w 27 #[.int .u64 (rk : Int), .int .i64 rg, .int .i64 ro, .int .i64 rn]
  have HH := vers.lay h
  clear h
  go_enter Try.func38, Try.ntmps38
  go_upto_region 1 with (fail)
  generalize hWq : w.alloc (.cells #[.int .u64 (rk : Int), .int .i64 rg, .int .i64 ro, .int .i64 rn] 27) = W at *
  obtain ⟨q1, hq1e⟩ : ∃ q1, w.heap.size = q1 := ⟨_, rfl⟩
  have HQ := vers.lay hq1e
  rw [hq1e] at k1 ⊢
  clear hWq hq1e
  have H0 := vers.lay (HH.out.below bA)
  have hf := find_ok H0.out ⟨rk, rg, ro, rn⟩
  obtain ⟨b0, b1, b2, b3⟩ : W.cell? ⟨q1, 0, none⟩ = _ ∧ W.cell? ⟨q1, 1, none⟩ = _ ∧ W.cell? ⟨q1, 2, none⟩ = _ ∧ W.cell? ⟨q1, 3, none⟩ = _ := ⟨k1.cell 0, k1.cell 1, k1.cell 2, k1.cell 3⟩
  simp only [List.getElem?_toArray, List.getElem?_cons_zero, List.getElem?_cons_succ] at b0 b1 b2 b3
  have hq1l := k1.lt
  have BA := vers.lay bA
  clear bA k1
  cases hat : atR (l.map H.ph) ⟨rk, rg, ro, rn⟩ with
  | none =>
    have hE := vers.lay (show (3, l.map H.ph) = pinP (l.map H.ph) ⟨rk, rg, ro, rn⟩ by unfold pinP; rw [hat])
    rw [hat] at hf
    have d1 : oi (none : Option Nat) = (-1 : Int) := rfl
    rw [d1] at hf
    clear d1 hat
    go_wp2_with (go_at_call 112; refine hf.mono ?_; rintro e1 w1 ⟨rfl, hb1⟩)
    go_ret
    exact ⟨3, l, rfl, hE.out, H0.out.below hb1, Keep.of_below (BA.out.trans (hb1.mono BA.out.size))⟩
  | some i =>
    have hi : i < l.length := by obtain ⟨h, _⟩ := atR_lt hat; simpa using h
    have hE := vers.lay (fun E L (h : (E, L) = pinP (l.map H.ph) ⟨rk, rg, ro, rn⟩) => h)
    have HAT := vers.lay hat
    rw [hat] at hf
    have d1 : oi (some i) = (i : Int) := rfl
    rw [d1] at hf
    have i1 : (0 : Int) ≤ (i : Int) := by omega
    have i0 : decide ((i : Int) < 0) = false := decide_eq_false (by omega)
    have i2 : (i : Int) < (l.length : Int) := by omega
    have hpi := HP.out _ (List.getElem_mem hi)
    have HPA := vers.lay (pinsAt_map l hi)
    have HPM := vers.lay (fun k => pins_map k l hi)
    have HPN := vers.lay (fun w' (hc : Ca w' p g Z room f m l) k => hc.pin hi k)
    have H7 := vers.lay (fun w' (hc : Ca w' p g Z room f m l) => (hc.at_ hi).2.2.2.2.2.2.2)
    have HFZ := vers.lay (fun w' (hc : Ca w' p g Z room f m l) => hc.row.frozenAt (i * 8 + 7))
    obtain ⟨pn, hpn⟩ : ∃ pn, (l[i]'hi).p = pn := ⟨_, rfl⟩
    rw [hpn] at hpi HPA H7
    clear d1 hat hpn hi
    go_upto_region 4 with (go_at_call 112; refine hf.mono ?_; rintro e1 w1 ⟨rfl, hb1⟩)
    have H1 := vers.lay (H0.out.below hb1)
    have BA1 := vers.lay (BA.out.trans (hb1.mono BA.out.size))
    clear hf b0 b1 b2 b3 hq1l hb1
    obtain ⟨hpW, hgW, x0, _, _, _⟩ := H1.out.head
    have y7 := H7.out _ H1.out
    have f7 := HFZ.out _ H1.out
    have ew : IntKind.i64.wrap ((pn : Int) + 1) = ((pn + 1 : Nat) : Int) := by rw [IntWalk.i64_in _ (by omega)]; rfl
    obtain ⟨cp, kp⟩ := HPN.out _ H1.out (pn + 1)
    have hE2 := vers.lay (show (0, (repL (H.pins (pn + 1)) l i).map H.ph) = pinP (l.map H.ph) ⟨rk, rg, ro, rn⟩ by unfold pinP; rw [HAT.out]; dsimp only; rw [HPA.out, HPM.out])
    have HCP := vers.lay cp
    have HKP := vers.lay (kp.mono (G := Z) fun b e _ => e ▸ H1.out.zg)
    clear cp kp
    go_wp2_with fail
    go_ret
    exact ⟨0, repL (H.pins (pn + 1)) l i, rfl, hE2.out, HCP.out, Keep.trans (S := Z) (Keep.of_below BA1.out) HKP.out fun _ h _ => h⟩

set_option maxRecDepth 100000 in
set_option maxHeartbeats 4000000 in
theorem unpin_ok (h : Ca w p g Z room f m l) (rk : Nat) (rg ro rn : Int) (hp : ∀ x ∈ l, x.p < 4611686018427387904) :
    Calls Try.prog 40 #[.pointer (some ⟨p, 0, none⟩), .agg #[.int .u64 (rk : Int), .int .i64 rg, .int .i64 ro, .int .i64 rn]] w fun e w' => ∃ (E : Int) (l' : List H), e = .returned (.int .i64 E) ∧ (E, l'.map H.ph) = unpinP (l.map H.ph) ⟨rk, rg, ro, rn⟩ ∧ Ca w' p g Z room f m l' ∧ Keep Z w w' := by
  have HP := vers.lay hp
  clear hp
  have bA : Below w.heap.size w (w.alloc (.cells #[.int .u64 (rk : Int), .int .i64 rg, .int .i64 ro, .int .i64 rn] 27)) := (Below.refl _ _).alloc (Nat.le_refl _) _
  have k1 := Blk.new w 27 #[.int .u64 (rk : Int), .int .i64 rg, .int .i64 ro, .int .i64 rn]
  have HH := vers.lay h
  clear h
  go_enter Try.func40, Try.ntmps40
  go_upto_region 1 with (fail)
  generalize hWq : w.alloc (.cells #[.int .u64 (rk : Int), .int .i64 rg, .int .i64 ro, .int .i64 rn] 27) = W at *
  obtain ⟨q1, hq1e⟩ : ∃ q1, w.heap.size = q1 := ⟨_, rfl⟩
  have HQ := vers.lay hq1e
  rw [hq1e] at k1 ⊢
  clear hWq hq1e
  have H0 := vers.lay (HH.out.below bA)
  have hf := find_ok H0.out ⟨rk, rg, ro, rn⟩
  obtain ⟨b0, b1, b2, b3⟩ : W.cell? ⟨q1, 0, none⟩ = _ ∧ W.cell? ⟨q1, 1, none⟩ = _ ∧ W.cell? ⟨q1, 2, none⟩ = _ ∧ W.cell? ⟨q1, 3, none⟩ = _ := ⟨k1.cell 0, k1.cell 1, k1.cell 2, k1.cell 3⟩
  simp only [List.getElem?_toArray, List.getElem?_cons_zero, List.getElem?_cons_succ] at b0 b1 b2 b3
  have hq1l := k1.lt
  have BA := vers.lay bA
  clear bA k1
  cases hat : atR (l.map H.ph) ⟨rk, rg, ro, rn⟩ with
  | none =>
    have hE := vers.lay (show (3, l.map H.ph) = unpinP (l.map H.ph) ⟨rk, rg, ro, rn⟩ by unfold unpinP; rw [hat])
    rw [hat] at hf
    have d1 : oi (none : Option Nat) = (-1 : Int) := rfl
    rw [d1] at hf
    clear d1 hat
    go_wp2_with (go_at_call 112; refine hf.mono ?_; rintro e1 w1 ⟨rfl, hb1⟩)
    go_ret
    exact ⟨3, l, rfl, hE.out, H0.out.below hb1, Keep.of_below (BA.out.trans (hb1.mono BA.out.size))⟩
  | some i =>
    have hi : i < l.length := by obtain ⟨h, _⟩ := atR_lt hat; simpa using h
    have hE := vers.lay (fun E L (h : (E, L) = unpinP (l.map H.ph) ⟨rk, rg, ro, rn⟩) => h)
    have HAT := vers.lay hat
    rw [hat] at hf
    have d1 : oi (some i) = (i : Int) := rfl
    rw [d1] at hf
    have i1 : (0 : Int) ≤ (i : Int) := by omega
    have i0 : decide ((i : Int) < 0) = false := decide_eq_false (by omega)
    have i2 : (i : Int) < (l.length : Int) := by omega
    have hpi := HP.out _ (List.getElem_mem hi)
    have HPA := vers.lay (pinsAt_map l hi)
    have HPM := vers.lay (fun k => pins_map k l hi)
    have HPN := vers.lay (fun w' (hc : Ca w' p g Z room f m l) k => hc.pin hi k)
    have H7 := vers.lay (fun w' (hc : Ca w' p g Z room f m l) => (hc.at_ hi).2.2.2.2.2.2.2)
    have HFZ := vers.lay (fun w' (hc : Ca w' p g Z room f m l) => hc.row.frozenAt (i * 8 + 7))
    obtain ⟨pn, hpn⟩ : ∃ pn, (l[i]'hi).p = pn := ⟨_, rfl⟩
    rw [hpn] at hpi HPA H7
    clear d1 hat hpn hi
    go_upto_region 4 with (go_at_call 112; refine hf.mono ?_; rintro e1 w1 ⟨rfl, hb1⟩)
    have H1 := vers.lay (H0.out.below hb1)
    have BA1 := vers.lay (BA.out.trans (hb1.mono BA.out.size))
    clear hf b0 b1 b2 b3 hq1l hb1
    obtain ⟨hpW, hgW, x0, _, _, _⟩ := H1.out.head
    have y7 := H7.out _ H1.out
    have f7 := HFZ.out _ H1.out
    rcases Nat.eq_zero_or_pos pn with h0 | h0
    · subst h0
      have hE2 := vers.lay (show (150, l.map H.ph) = unpinP (l.map H.ph) ⟨rk, rg, ro, rn⟩ by unfold unpinP; rw [HAT.out]; dsimp only; rw [HPA.out, if_pos rfl])
      go_wp2_with fail
      go_ret
      exact ⟨150, l, rfl, hE2.out, H1.out, Keep.of_below BA1.out⟩
    · obtain ⟨k, rfl⟩ : ∃ k, pn = k + 1 := ⟨pn - 1, by omega⟩
      have d7 : (((k + 1 : Nat) : Int) == 0) = false := by simp; omega
      have d8 : decide (((k + 1 : Nat) : Int) = 0) = false := decide_eq_false (by omega)
      have d9 : ((k : Int) + 1 == 0) = false := by simp; omega
      have d5 : decide ((k : Int) + 1 = 0) = false := decide_eq_false (by omega)
      have ew : IntKind.i64.wrap (((k + 1 : Nat) : Int) - 1) = (k : Int) := by rw [IntWalk.i64_in _ (by omega)]; omega
      have ew2 : IntKind.i64.wrap ((k : Int) + 1 - 1) = (k : Int) := by rw [IntWalk.i64_in _ (by omega)]; omega
      have ew3 : IntKind.i64.wrap (k : Int) = (k : Int) := IntWalk.i64_in _ (by omega)
      obtain ⟨cp, kp⟩ := HPN.out _ H1.out k
      have hE2 := vers.lay (show (0, (repL (H.pins k) l i).map H.ph) = unpinP (l.map H.ph) ⟨rk, rg, ro, rn⟩ by unfold unpinP; rw [HAT.out]; dsimp only; rw [HPA.out, if_neg (by omega), Nat.add_sub_cancel, HPM.out])
      have HCP := vers.lay cp
      have HKP := vers.lay (kp.mono (G := Z) fun b e _ => e ▸ H1.out.zg)
      clear cp kp
      go_wp2_with fail
      go_ret
      exact ⟨0, repL (H.pins k) l i, rfl, hE2.out, HCP.out, Keep.trans (S := Z) (Keep.of_below BA1.out) HKP.out fun _ h _ => h⟩

end
set_option maxRecDepth 100000 in
set_option maxHeartbeats 4000000 in
theorem new_no (n : Int) (w : World) (hn : n < 0 ∨ 32 < n) : Calls Try.prog 31 #[.int .i64 n] w fun e w' => e = .returned (.tuple #[.pointer none, .int .i64 1]) ∧ w' = w := by
  rcases hn with h | h
  · have d0 : decide (n < 0) = true := decide_eq_true h
    go_enter Try.func31, Try.ntmps31
    go_wp2_with fail
    refine bodyPost_ret (v := .tuple #[.pointer none, .int .i64 1]) (by simp [results, Try.results31, go_sem]) rfl ⟨rfl, rfl⟩
  · have d0 : decide (n < 0) = false := decide_eq_false (by omega)
    have d1 : decide (32 < n) = true := decide_eq_true h
    go_enter Try.func31, Try.ntmps31
    go_wp2_with fail
    refine bodyPost_ret (v := .tuple #[.pointer none, .int .i64 1]) (by simp [results, Try.results31, go_sem]) rfl ⟨rfl, rfl⟩
set_option maxRecDepth 100000 in
set_option maxHeartbeats 4000000 in
theorem new_ok (n : Nat) (w : World) (hn : n ≤ 32) : Calls Try.prog 31 #[.int .i64 (n : Int)] w fun e w' => ∃ p g, e = .returned (.tuple #[.pointer (some ⟨p, 0, none⟩), .int .i64 0]) ∧ Ca w' p g (fun b => w.heap.size ≤ b ∧ b < w'.heap.size) n 0 0 [] ∧ Below w.heap.size w w' := by
  obtain ⟨i0, hi0, hz0, hz1, hz2⟩ := info_parts infoH
  have hmk : ∀ u : World, (Instr.makeSlice 98 (.int .i64 0) (.int .i64 (n : Int))).run Try.prog u = .ok (.slice (some ⟨u.heap.size, 0, none⟩) 0 n) (u.alloc (.cells (madeCells (Value.agg #[.int .u64 0, .int .i64 0, .int .i64 0, .int .i64 0, .bool false, .slice none 0 0, .slice none 0 0, .int .i64 0]).cells (n * 8)) 110)) := fun u => by
    have h := run_make (P := Try.prog) u 98 110 i0 _ Try.underlying98 hi0 hz0 .i64 .i64 0 (n : Int) (by omega) (by omega) (by rw [hz2]; omega) (by omega)
    simpa [hz1] using h
  have hsz : (madeCells (Value.agg #[.int .u64 0, .int .i64 0, .int .i64 0, .int .i64 0, .bool false, .slice none 0 0, .slice none 0 0, .int .i64 0]).cells (n * 8)).size = n * 8 := size_madeCells _ _
  generalize madeCells (Value.agg #[.int .u64 0, .int .i64 0, .int .i64 0, .int .i64 0, .bool false, .slice none 0 0, .slice none 0 0, .int .i64 0]).cells (n * 8) = cur at hmk hsz
  have hb1 : Below w.heap.size w (w.alloc (.cells cur 110)) := (Below.refl _ _).alloc (Nat.le_refl _) _
  have hb2 : Below w.heap.size w ((w.alloc (.cells cur 110)).alloc (.cells #[.slice (some ⟨w.heap.size, 0, none⟩) 0 n, .int .i64 (n : Int), .int .i64 0, .int .i64 0] 212)) := hb1.alloc (by simp) _
  have k1 := (Blk.new w 110 cur).alloc (.cells #[.slice (some ⟨w.heap.size, 0, none⟩) 0 n, .int .i64 (n : Int), .int .i64 0, .int .i64 0] 212)
  have k2 := Blk.new (w.alloc (.cells cur 110)) 212 #[.slice (some ⟨w.heap.size, 0, none⟩) 0 n, .int .i64 (n : Int), .int .i64 0, .int .i64 0]
  rw [World.size_alloc] at k2
  have HSZ := vers.lay hsz
  clear hsz hz0 hz1 hz2 hi0
  have d0 : decide ((n : Int) < 0) = false := decide_eq_false (by omega)
  have d1 : decide (32 < (n : Int)) = false := decide_eq_false (by omega)
  have d2 : decide (32 < n) = false := decide_eq_false (by omega)
  go_enter Try.func31, Try.ntmps31
  go_wp2_with fail
  refine bodyPost_ret (v := .tuple #[.pointer (some ⟨w.heap.size + 1, 0, none⟩), .int .i64 0]) (by simp [results, Try.results31, go_sem]) rfl ?_
  refine ⟨w.heap.size + 1, w.heap.size, rfl, ⟨k2, ⟨rfl, .inr ⟨w.heap.size, n, cur, rfl, Nat.zero_le _, k1, Nat.zero_le _, by unfold maxLen; omega, HSZ.out, by simp [cellsH]⟩⟩, hn, by omega, fun b hb => hb.2, ⟨by omega, by simp⟩, ⟨Nat.le_refl _, by simp; omega⟩, (fun x hx => by cases hx), List.Pairwise.nil, (fun x hx => by cases hx)⟩, hb2⟩
end Go.Proofs.Ytoenkkbcpafanaa.caches

/- Pages in memory: a log over its medium and its power, a cache, draws, side by side. -/

namespace Go.Proofs.Ytoenkkbcpafanaa.pags
set_option linter.unusedVariables false
set_option linter.unusedSimpArgs false
open Go.RowKit Go.Proofs.Ytoenkkbcpafanaa.base Go.Proofs.Ytoenkkbcpafanaa.trees Go.Proofs.Ytoenkkbcpafanaa.powers Go.Proofs.Ytoenkkbcpafanaa.mediums Go.Proofs.Ytoenkkbcpafanaa.segs Go.Proofs.Ytoenkkbcpafanaa.caches Go.Proofs.Ytoenkkbcpafanaa.dice Go.Lib

/-- a quota's numbers -/
structure Q7 where
  a : Int
  b : Int
  c : Int
  d : Int
  e : Int
  f : Int
  h : Int
/-- where pages lie -/
structure PL where
  pp : Nat
  gd : Nat
  gl : Nat
  p : Nat
  g : Nat
  lg : Nat
  ab : Nat
  c : Nat
  cp : Nat
  cg : Nat
  S : Nat → Prop
  Z : Nat → Prop
/-- what they are -/
structure PV where
  zs : List Int
  k : Nat
  m : MS
  s : LS
  L : Int
  W : Int
  room : Nat
  f : Nat
  mi : Nat
  l : List H
/-- blocks of the draws; all blocks -/
def PL.D (x : PL) (b : Nat) : Prop := b = x.gd ∨ b = x.gl
def PL.G (x : PL) (b : Nat) : Prop := SB4 x.S x.p x.lg x.ab b
def PL.T (x : PL) (b : Nat) : Prop := b = x.pp ∨ x.D b ∨ x.G b ∨ x.Z b
structure Pg (B : Nat) (w0 w : World) (q : Q7) (x : PL) (v : PV) : Prop where
  blk : Blk w x.pp 127 #[.pointer (some ⟨x.lg, 0, none⟩), .pointer (some ⟨x.cp, 0, none⟩), .pointer (some ⟨x.gd, 0, none⟩), .int .i64 q.a, .int .i64 q.b, .int .i64 q.c, .int .i64 q.d, .int .i64 q.e, .int .i64 q.f, .int .i64 q.h]
  dice : IsDice w B x.gd x.gl v.zs v.k
  sg : Sg B w0 w x.S x.p x.g x.lg x.ab x.c v.m v.s v.L v.W
  ca : Ca w x.cp x.cg x.Z v.room v.f v.mi v.l
  ppB : B ≤ x.pp
  zB : ∀ b, x.Z b → B ≤ b
  a1 : ¬ x.D x.pp ∧ ¬ x.G x.pp ∧ ¬ x.Z x.pp
  a2 : ∀ b, x.D b → ¬ x.G b ∧ ¬ x.Z b
  a3 : ∀ b, x.G b → ¬ x.Z b
section
variable {B : Nat} {w0 w w' : World} {q : Q7} {x : PL} {v : PV}
theorem Pg.hb (h : Pg B w0 w q x v) : Below B w0 w := h.sg.hb
theorem Pg.le (h : Pg B w0 w q x v) : B ≤ w0.heap.size ∧ w0.heap.size ≤ w.heap.size := ⟨h.sg.le, h.sg.hb.size⟩
theorem Pg.tB (h : Pg B w0 w q x v) : ∀ b, x.T b → B ≤ b := fun b hb => by
  rcases hb with rfl | (rfl | rfl) | hb | hb
  · exact h.ppB
  · exact h.dice.low
  · exact h.dice.lowl
  · exact h.sg.lo b hb
  · exact h.zB b hb
theorem Pg.tlt (h : Pg B w0 w q x v) : ∀ b, x.T b → b < w.heap.size := fun b hb => by
  rcases hb with rfl | (rfl | rfl) | hb | hb
  · exact h.blk.lt
  · exact h.dice.self.lt
  · exact h.dice.list.lt
  · exact h.sg.lt b hb
  · exact h.ca.zlt b hb
/-- what leaves all these blocks as they are -/
theorem Pg.agree (h : Pg B w0 w q x v) {F : Nat → Prop} (hk : Keep F w w') (hF : ∀ b, x.T b → ¬ F b) (hB : ∀ b, F b → B ≤ b) : Pg B w0 w' q x v :=
  ⟨hk.blk h.blk (hF _ (.inl rfl)), h.dice.keep (hk.block _ h.dice.self.lt (hF _ (.inr (.inl (.inl rfl))))) (hk.block _ h.dice.list.lt (hF _ (.inr (.inl (.inr rfl))))),
    h.sg.keep hk (fun b hb => hF b (.inr (.inr (.inl hb)))) hB, h.ca.keep hk (fun b hb => hF b (.inr (.inr (.inr hb)))), h.ppB, h.zB, h.a1, h.a2, h.a3⟩
theorem Pg.below (h : Pg B w0 w q x v) (hb : Below w.heap.size w w') : Pg B w0 w' q x v :=
  h.agree (F := fun b => w.heap.size ≤ b) (Keep.of_below hb) (fun b hb h1 => by have := h.tlt b hb; omega) (fun b h1 => by have := h.le; omega)
theorem Pg.head (h : Pg B w0 w q x v) : x.pp < w.heap.size ∧ w.cell? ⟨x.pp, 0, none⟩ = some (.pointer (some ⟨x.lg, 0, none⟩)) ∧ w.cell? ⟨x.pp, 1, none⟩ = some (.pointer (some ⟨x.cp, 0, none⟩)) ∧ w.cell? ⟨x.pp, 2, none⟩ = some (.pointer (some ⟨x.gd, 0, none⟩)) ∧
    w.cell? ⟨x.pp, 3, none⟩ = some (.int .i64 q.a) ∧ w.cell? ⟨x.pp, 4, none⟩ = some (.int .i64 q.b) ∧ w.cell? ⟨x.pp, 5, none⟩ = some (.int .i64 q.c) ∧ w.cell? ⟨x.pp, 6, none⟩ = some (.int .i64 q.d) ∧ w.cell? ⟨x.pp, 7, none⟩ = some (.int .i64 q.e) ∧ w.cell? ⟨x.pp, 8, none⟩ = some (.int .i64 q.f) ∧ w.cell? ⟨x.pp, 9, none⟩ = some (.int .i64 q.h) :=
  ⟨h.blk.lt, h.blk.cell 0, h.blk.cell 1, h.blk.cell 2, h.blk.cell 3, h.blk.cell 4, h.blk.cell 5, h.blk.cell 6, h.blk.cell 7, h.blk.cell 8, h.blk.cell 9⟩
/-- a draw -/
theorem Pg.next (h : Pg B w0 w q x v) : Pg B w0 (w.setCell ⟨x.gd, 1, none⟩ (.int .i64 ((v.k + 1 : Nat) : Int))) q x { v with k := v.k + 1 } ∧ Keep x.T w (w.setCell ⟨x.gd, 1, none⟩ (.int .i64 ((v.k + 1 : Nat) : Int))) := by
  have hk : Keep (fun b => b = x.gd) w (w.setCell ⟨x.gd, 1, none⟩ (.int .i64 ((v.k + 1 : Nat) : Int))) :=
    by
    have z := (Below.refl 0 w).setCell (p := ⟨x.gd, 1, none⟩) (Nat.zero_le _) (.int .i64 ((v.k + 1 : Nat) : Int))
    exact ⟨z.os, z.tape, z.output, by simp, fun b _ hn => Below.heap_setCell _ _ _ _ (by simpa using hn)⟩
  have hd : x.D x.gd := .inl rfl
  refine ⟨⟨hk.blk h.blk (fun e => h.a1.1 (e ▸ hd)), h.dice.next, h.sg.keep hk (fun b hb e => (h.a2 x.gd hd).1 (e ▸ hb)) (fun b e => e ▸ h.dice.low), h.ca.keep hk (fun b hb e => (h.a2 x.gd hd).2 (e ▸ hb)), h.ppB, h.zB, h.a1, h.a2, h.a3⟩, hk.mono fun b e _ => .inr (.inl (e ▸ hd))⟩
/-- an append -/
theorem Pg.append (h : Pg B w0 w q x v) {b : ByteArray} {e : Ending} (hp : ApPost B w0 x.S x.p x.g x.lg x.ab x.c v.m v.s v.L v.W b w e w') :
    e = .returned (.tuple #[(apV v.m v.s v.L b).v, .int .i64 (apE v.m v.s v.L b)]) ∧ ∃ S', Pg B w0 w' q { x with S := S' } { v with m := apM v.m v.s v.L b, s := apS v.m v.s v.L b, L := apL v.m v.s v.L b, W := apW v.m v.s v.L v.W b } ∧ Keep x.T w w' ∧ ∀ k, S' k → x.S k ∨ w.heap.size ≤ k := by
  obtain ⟨he, S', hs, hS, hk⟩ := hp
  have hG : ∀ k, SB4 S' x.p x.lg x.ab k → x.G k ∨ w.heap.size ≤ k := fun k hk => by
    rcases hk with hk | hk
    · rcases hS k hk with e | e
      · exact .inl (.inl e)
      · exact .inr e
    · exact .inl (.inr hk)
  have hlt := h.tlt
  refine ⟨he, S', ⟨hk.blk h.blk h.a1.2.1, h.dice.keep (hk.block _ h.dice.self.lt (h.a2 _ (.inl rfl)).1) (hk.block _ h.dice.list.lt (h.a2 _ (.inr rfl)).1), hs, h.ca.keep hk (fun b hb e => h.a3 b e hb), h.ppB, h.zB, ⟨h.a1.1, fun e => ?_, h.a1.2.2⟩, fun b hb => ⟨fun e => ?_, (h.a2 b hb).2⟩, fun b hb e => ?_⟩, hk.mono fun b e _ => .inr (.inr (.inl e)), hS⟩
  · rcases hG _ e with e | e
    · exact h.a1.2.1 e
    · have h1 : w.heap.size ≤ x.pp := e
      have := h.blk.lt; omega
  · rcases hG _ e with e | e
    · exact (h.a2 b hb).1 e
    · have := hlt b (.inr (.inl hb)); omega
  · rcases hG _ hb with e1 | e1
    · exact h.a3 b e1 e
    · have := hlt b (.inr (.inr (.inr e))); omega
/-- what the cache's calls do -/
theorem Pg.cache (h : Pg B w0 w q x v) {Z' : Nat → Prop} {f' mi' : Nat} {l' : List H} (hc : Ca w' x.cp x.cg Z' v.room f' mi' l') (hk : Keep x.Z w w') (hz : ∀ b, Z' b → x.Z b ∨ w.heap.size ≤ b) :
    Pg B w0 w' q { x with Z := Z' } { v with f := f', mi := mi', l := l' } ∧ Keep x.T w w' := by
  have hlt := h.tlt
  refine ⟨⟨hk.blk h.blk h.a1.2.2, h.dice.keep (hk.block _ h.dice.self.lt (h.a2 _ (.inl rfl)).2) (hk.block _ h.dice.list.lt (h.a2 _ (.inr rfl)).2), h.sg.keep hk (fun b hb e => h.a3 b hb e) h.zB, hc, h.ppB, fun b hb => ?_, ⟨h.a1.1, h.a1.2.1, fun e => ?_⟩, fun b hb => ⟨(h.a2 b hb).1, fun e => ?_⟩, fun b hb e => ?_⟩, hk.mono fun b e _ => .inr (.inr (.inr e))⟩
  · rcases hz b hb with e | e
    · exact h.zB b e
    · have := h.le; omega
  · rcases hz _ e with e | e
    · exact h.a1.2.2 e
    · have h1 : w.heap.size ≤ x.pp := e
      have := h.blk.lt; omega
  · rcases hz _ e with e | e
    · exact (h.a2 b hb).2 e
    · have := hlt b (.inr (.inl hb)); omega
  · rcases hz _ e with e1 | e1
    · exact h.a3 b hb e1
    · have := hlt b (.inr (.inr (.inl hb))); omega
end
end Go.Proofs.Ytoenkkbcpafanaa.pags

/- A region that draws its order while its calls make memory: one walk, in a class of worlds that know one quota's box. -/

namespace Go.Proofs.Ytoenkkbcpafanaa.quotas
set_option linter.unusedVariables false
set_option linter.unusedSimpArgs false
open Go.RowKit Go.Proofs.Ytoenkkbcpafanaa.base

theorem norms (S : World → Prop) (w : World) (h : S w) : ∃ N : World → World, (∀ n, S (N n)) ∧ ∀ w', S w' → ∃ n, w' = N n := by
  refine ⟨fun n => @ite _ (S n) (Classical.propDecidable _) n w, fun n => ?_, fun w' hw => ⟨w', ?_⟩⟩
  · by_cases hn : S n
    · simp [hn]
    · simpa [hn] using h
  · simp [hw]

theorem region_class {P : Program} {id : Nat} {Q : Exit → Act → World → Prop} {a : Act} {w : World} {l : List Oper} (N : World → World) (hm : P.follows .mixedOrders = true) (hB : Region.lexB .any l.toArray = true) (hC : ∃ n, w.drew = N n)
    (h : wpQuiet P l.toArray (fun w' => ∃ n, w' = N n) (fun a' => ∀ w', (∃ n, w' = N n) → Q .normal a' w') l a) : (Code.region id l.toArray true).wp P Q a w :=
  wp_region_quiet (C := fun w' => ∃ n, w' = N n) hm hB hC (by simpa using h)

theorem call_class {P : Program} {f : FuncId} {args : Array Value} {v : Value} {w0 : World} {g : Nat} {a b c d e f' h : Int} {N : World → World} {n : World} (h1 : ∀ n, In7 w0 g a b c d e f' h (N n)) (h2 : ∀ w', In7 w0 g a b c d e f' h w' → ∃ n, w' = N n)
    (hc : Calls P f args (N n) fun e w' => e = .returned v ∧ Below (N n).heap.size (N n) w') : Calls P f args (N n) fun e w'' => e = .returned v ∧ ∃ m, w'' = N m :=
  hc.mono fun _ _ ⟨he, hb⟩ => ⟨he, h2 _ ((h1 n).next hb)⟩
end Go.Proofs.Ytoenkkbcpafanaa.quotas

/- What is asked of package node's own Right, RefRight and Low; the walk of NodeRights. -/

namespace Go.Proofs.Ytoenkkbcpafanaa.nodes
set_option linter.unusedVariables false
set_option linter.unusedSimpArgs false
open Go.RowKit Go.Proofs.Ytoenkkbcpafanaa.base Go.Proofs.Ytoenkkbcpafanaa.quotas Go.Proofs.Ytoenkkbcpafanaa.vers

def RightIs : Prop := ∀ (a b c d e f h : Int) (lf : Bool) (es : List E) (ks : List K) (A : Option Addr) (cap : Nat) (A' : Option Addr) (cap' : Nat) (w : World), Es w w.heap.size es A cap → Ks w w.heap.size ks A' cap' →
  Calls Try.prog 125 #[.agg #[.int .i64 a, .int .i64 b, .int .i64 c, .int .i64 d, .int .i64 e, .int .i64 f, .int .i64 h], .agg #[.bool lf, .slice A es.length cap, .slice A' ks.length cap']] w fun x w' => x = .returned (.int .i64 (ndbad a b c d e f h lf es ks)) ∧ Below w.heap.size w w'
def RefIs : Prop := ∀ (k : Nat) (g o n : Int) (w : World),
  Calls Try.prog 243 #[.agg #[.int .u64 (k : Int), .int .i64 g, .int .i64 o, .int .i64 n]] w fun x w' => x = .returned (.bool (decide (refOk g o n))) ∧ Below w.heap.size w w'
def LowIs : Prop := ∀ (lf : Bool) (es : List E) (ks : List K) (A : Option Addr) (cap : Nat) (A' : Option Addr) (cap' : Nat) (w : World), Es w w.heap.size es A cap → Ks w w.heap.size ks A' cap' →
  Calls Try.prog 196 #[.agg #[.bool lf, .slice A es.length cap, .slice A' ks.length cap']] w fun x w' => x = .returned (.string (lowOf lf es ks)) ∧ Below w.heap.size w w'

theorem call_in {P : Program} {f : FuncId} {args : Array Value} {v : Value} {S : World → Prop} {N : World → World} {n : World} (hS : ∀ w w', S w → Below w.heap.size w w' → S w') (h1 : ∀ n, S (N n)) (h2 : ∀ w', S w' → ∃ n, w' = N n)
    (hc : Calls P f args (N n) fun e w' => e = .returned v ∧ Below (N n).heap.size (N n) w') : Calls P f args (N n) fun e w'' => e = .returned v ∧ ∃ m, w'' = N m :=
  hc.mono fun _ _ ⟨he, hb⟩ => ⟨he, h2 _ (hS _ _ (h1 n) hb)⟩

/-- behind the law's beginning: the quota's, the node's and the reference's boxes -/
def Br (w : World) (a b c d e f h : Int) (lf : Bool) (u u' : Value) (k : Nat) (g o n : Int) (wr : World) : Prop :=
  Bn w a b c d e f h lf u u' wr ∧ (wr.cell? ⟨w.heap.size + 2, 0, none⟩ = some (.int .u64 (k : Int)) ∧ wr.cell? ⟨w.heap.size + 2, 1, none⟩ = some (.int .i64 g) ∧ wr.cell? ⟨w.heap.size + 2, 2, none⟩ = some (.int .i64 o) ∧ wr.cell? ⟨w.heap.size + 2, 3, none⟩ = some (.int .i64 n)) ∧ w.heap.size + 2 < wr.heap.size
theorem Br.new (w : World) (a b c d e f h : Int) (lf : Bool) (u u' : Value) (k : Nat) (g o n : Int) : Br w a b c d e f h lf u u' k g o n (((w.alloc (.cells #[.int .i64 a, .int .i64 b, .int .i64 c, .int .i64 d, .int .i64 e, .int .i64 f, .int .i64 h] 113)).alloc (.cells #[.bool lf, u, u'] 87)).alloc (.cells #[.int .u64 (k : Int), .int .i64 g, .int .i64 o, .int .i64 n] 27)) := by
  have q := Blk.new ((w.alloc (.cells #[.int .i64 a, .int .i64 b, .int .i64 c, .int .i64 d, .int .i64 e, .int .i64 f, .int .i64 h] 113)).alloc (.cells #[.bool lf, u, u'] 87)) 27 #[.int .u64 (k : Int), .int .i64 g, .int .i64 o, .int .i64 n]
  simp only [World.size_alloc] at q
  exact ⟨(Bn.new w a b c d e f h lf u u').alloc _, ⟨q.cell 0, q.cell 1, q.cell 2, q.cell 3⟩, by simp⟩
theorem Br.next {w wr w' : World} {a b c d e f h : Int} {lf : Bool} {u u' : Value} {k : Nat} {g o n : Int} (h1 : Br w a b c d e f h lf u u' k g o n wr) (hb : Below wr.heap.size wr w') : Br w a b c d e f h lf u u' k g o n w' := by
  obtain ⟨h1, ⟨h2, h3, h5, h6⟩, h4⟩ := h1
  have hs := hb.size
  exact ⟨h1.next hb, ⟨by rw [hb.cell (by simpa using h4)]; exact h2, by rw [hb.cell (by simpa using h4)]; exact h3, by rw [hb.cell (by simpa using h4)]; exact h5, by rw [hb.cell (by simpa using h4)]; exact h6⟩, by omega⟩

end Go.Proofs.Ytoenkkbcpafanaa.nodes
