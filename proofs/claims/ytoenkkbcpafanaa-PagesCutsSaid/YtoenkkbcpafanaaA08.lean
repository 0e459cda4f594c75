/- A region that draws its order, with a condition S on the world that is shown behind each operation but those that wait for all that reads. -/
import Derived.Test.YtoenkkbcpafanaaA00
import Derived.Deep.RegionHeld3
import Derived.Test.YtoenkkbcpafanaaA06
import Derived.Maps.AppendAt


namespace Go.Proofs.Ytoenkkbcpafanaa.mix
set_option linter.unusedVariables false
set_option linter.unusedSimpArgs false
open Go.RowKit Go.Proofs.Ytoenkkbcpafanaa.base

section
variable {P : Program} {ops : Array Oper} {md : Region.Mode} {S : World → Prop} {D : Nat → Bool} {Q : Exit → Act → World → Prop}
def wpAnyD (P : Program) (md : Region.Mode) (ops : Array Oper) (Q : Exit → Act → World → Prop) (S : World → Prop) (D : Nat → Bool) : Nat → Array Bool → Act → World → Prop
  | 0, listed, a, w => Region.ready md ops listed = [] ∧ Q .normal a w
  | fuel + 1, listed, a, w =>
    (Region.ready md ops listed = [] → Q .normal a w) ∧
    ∀ i ∈ Region.ready md ops listed, wpOp P ops Q i (fun a' w' => (D i = false → S w') ∧ wpAnyD P md ops Q S D fuel (listed.setIfInBounds i true) a' w') a w
theorem any_of_D : ∀ (fuel : Nat) (listed : Array Bool) (a : Act) (w : World), wpAnyD P md ops Q S D fuel listed a w → wpAny P md ops Q fuel listed a w
  | 0, _, _, _, h => h
  | fuel + 1, _, _, _, h => ⟨h.1, fun i hi => wpOp_mono (fun a' w' h' => any_of_D fuel _ a' w' h'.2) (h.2 i hi)⟩
theorem D_first {i : Nat} {oi : Oper} {v : Value} (hi : ops[i]? = some oi) (hsel : ∀ (j : Nat) (o : Oper) cs b, ops[j]? = some o → o.op ≠ .select cs b)
    (hQ : ∀ c a w, Q (.panic c) (a.put oi.dst v) w → Q (.panic c) a w) (hD : ∀ j oj, ops[j]? = some oj → D j = true → ∃ e ∈ oj.after, Region.binds md e = true ∧ e.on = i) :
    ∀ (fuel : Nat) (listed : Array Bool) (a : Act) (w : World),
      (∀ j oj, ops[j]? = some oj → j ≠ i → listed.getD j true = false → (∀ e ∈ oj.after, Region.binds md e = true → e.on ≠ i) → oi.apart ops oj = true) →
      i ∈ Region.ready md ops listed → YieldsIf P ops S oi v a → S w →
      wpAnyD P md ops Q S D fuel (listed.setIfInBounds i true) (a.put oi.dst v) w → wpAnyD P md ops Q S D (fuel + 1) listed a w := by
  intro fuel
  induction fuel with
  | zero =>
    intro listed a w _ hr hy hS H
    refine ⟨fun h => (by rw [h] at hr; cases hr), fun j hj => ?_⟩
    by_cases hji : j = i
    · subst hji; exact hy.wpOp hi hS ⟨fun _ => hS, H⟩
    · have := ready_mono hj hji
      rw [H.1] at this
      cases this
  | succ fuel ih =>
    intro listed a w hfree hr hy hS H
    refine ⟨fun h => (by rw [h] at hr; cases hr), fun j hj => ?_⟩
    by_cases hji : j = i
    · subst hji; exact hy.wpOp hi hS ⟨fun _ => hS, H⟩
    · have h1 := H.2 j (ready_mono hj hji)
      obtain ⟨hjun, oj, hoj, hall⟩ := mem_ready.1 hj
      have hnot : ∀ e ∈ oj.after, Region.binds md e = true → e.on ≠ i := fun e he hb heq => by
        have h1 := hall e he hb
        have h0 := (mem_ready.1 hr).1
        rw [heq] at h1
        rcases Nat.lt_or_ge i listed.size with h' | h'
        · simp [h'] at h0 h1; rw [h0] at h1; cases h1
        · simp [Array.getElem?_eq_none h'] at h1
      have hDj : D j = false := by
        cases hd : D j with
        | false => rfl
        | true =>
          obtain ⟨e, he, hb, heq⟩ := hD j oj hoj hd
          exact absurd heq (hnot e he hb)
      have h2 := wpOp_putIf hoj (hfree j oj hoj hji hjun hnot) (fun cs b => hsel i oi cs b hi) (fun cs b => hsel j oj cs b hoj) hQ hy h1
      have hfree' : ∀ k ok, ops[k]? = some ok → k ≠ i → (listed.setIfInBounds j true).getD k true = false →
          (∀ e ∈ ok.after, Region.binds md e = true → e.on ≠ i) → oi.apart ops ok = true := fun k ok hk hki hun hno => by
        refine hfree k ok hk hki ?_ hno
        by_cases hjk : j = k
        · subst hjk; exact hjun
        · rw [getD_set_ne true hjk] at hun; exact hun
      refine wpOp_mono (fun a' w' h3 => ⟨fun _ => h3.2.1 hDj, ih (listed.setIfInBounds j true) a' w' hfree' (ready_mono hr (Ne.symm hji)) h3.1 (h3.2.1 hDj) ?_⟩) h2
      rw [Array.setIfInBounds_comm _ _ hji]
      exact h3.2.2
/-- those that need not show S wait for number i -/
def waitB (md : Region.Mode) (ops : Array Oper) (D : Nat → Bool) (i : Nat) : Bool :=
  (List.range ops.size).all fun j => !D j || (match ops[j]? with | some o => o.after.any fun e => Region.binds md e && (e.on == i) | none => true)
theorem waitB_spec {i : Nat} (h : waitB md ops D i = true) : ∀ j oj, ops[j]? = some oj → D j = true → ∃ e ∈ oj.after, Region.binds md e = true ∧ e.on = i := by
  intro j oj hoj hd
  have hlt : j < ops.size := (Array.getElem?_eq_some_iff.1 hoj).1
  have h1 := List.all_eq_true.1 h j (List.mem_range.2 hlt)
  rw [hd, hoj] at h1
  simp only [Bool.not_true, Bool.false_or] at h1
  obtain ⟨e, he, h2⟩ := Array.any_eq_true'.1 h1
  rw [Bool.and_eq_true, beq_iff_eq] at h2
  exact ⟨e, he, h2.1, h2.2⟩
/-- take number i first -/
theorem D_take {i : Nat} {oi : Oper} {v : Value} {fuel : Nat} {listed : Array Bool} {a : Act} {w : World} (hi : ops[i]? = some oi)
    (hs : Region.noSelect ops = true) (hf : (Region.free md ops listed i && (Region.ready md ops listed).contains i && waitB md ops D i) = true)
    (hQ : ∀ c a w, Q (.panic c) (a.put oi.dst v) w → Q (.panic c) a w) (hy : YieldsIf P ops S oi v a) (hS : S w)
    (h : wpAnyD P md ops Q S D fuel (listed.setIfInBounds i true) (a.put oi.dst v) w) : wpAnyD P md ops Q S D (fuel + 1) listed a w := by
  simp only [Bool.and_eq_true] at hf
  exact D_first hi (Region.noSelect_spec hs) hQ (waitB_spec hf.2) fuel listed a w (Region.free_spec hi hf.1.1) (by simpa using hf.1.2) hy hS h
/-- number k alone may come up: it is carried out -/
theorem D_one {k : Nat} {o : Oper} {fuel : Nat} {listed : Array Bool} {a : Act} {w : World} (ho : ops[k]? = some o) (hr : (Region.ready md ops listed == [k]) = true)
    (h : ∀ K' : Act → World → Prop, Shut (∀ a' w', (D k = false → S w') → wpAnyD P md ops Q S D fuel (listed.setIfInBounds k true) a' w' → K' a' w') → if Region.wanted o (yielded ops a.tmps) = true then Oper.wp P o a w K' Q else K' (a.put o.dst undef) w) : wpAnyD P md ops Q S D (fuel + 1) listed a w := by
  have hr' : Region.ready md ops listed = [k] := beq_iff_eq.1 hr
  refine ⟨fun e => (by rw [hr'] at e; cases e), fun i hi => ?_⟩
  rw [hr', List.mem_singleton] at hi
  subst hi
  exact wpOp_step ho (fun K' hK => h K' (fun a w hS hW => hK a w ⟨hS, hW⟩))
theorem D_op {k : Nat} {o : Oper} {fuel : Nat} {listed : Array Bool} {a : Act} {w : World} (ho : ops[k]? = some o) (hg : o.guard = none) (hr : (Region.ready md ops listed == [k]) = true)
    (h : ∀ K' : Act → World → Prop, Shut (∀ a' w', (D k = false → S w') → wpAnyD P md ops Q S D fuel (listed.setIfInBounds k true) a' w' → K' a' w') → Oper.wp P o a w K' Q) : wpAnyD P md ops Q S D (fuel + 1) listed a w :=
  D_one ho hr (fun K' hK => by rw [if_pos (by simp [Region.wanted, hg])]; exact h K' hK)
theorem D_done {listed : Array Bool} {a : Act} {w : World} (hr : (Region.ready md ops listed == []) = true) (h : Q .normal a w) : ∀ fuel, wpAnyD P md ops Q S D fuel listed a w
  | 0 => ⟨beq_iff_eq.1 hr, h⟩
  | fuel + 1 => ⟨fun _ => h, fun i hi => by rw [beq_iff_eq.1 hr] at hi; cases hi⟩
theorem region_D {id : Nat} {a : Act} {w : World} (S : World → Prop) (D : Nat → Bool) (hm : P.follows .mixedOrders = true) (h : wpAnyD P .any ops Q S D ops.size (Array.replicate ops.size false) a w.drew) : (Code.region id ops true).wp P Q a w :=
  wp_region_any hm (any_of_D _ _ _ _ h)
end
end Go.Proofs.Ytoenkkbcpafanaa.mix

/- A region that draws its order: two operations may come up. -/

namespace Go.Proofs.Ytoenkkbcpafanaa.mix
set_option linter.unusedVariables false
set_option linter.unusedSimpArgs false
open Go.RowKit Go.Proofs.Ytoenkkbcpafanaa.base
section
variable {P : Program} {ops : Array Oper} {md : Region.Mode} {S : World → Prop} {D : Nat → Bool} {Q : Exit → Act → World → Prop}
/-- number k or number j comes up -/
theorem D_two {k j : Nat} {o o' : Oper} {fuel : Nat} {listed : Array Bool} {a : Act} {w : World} (ho : ops[k]? = some o) (hg : o.guard = none) (ho' : ops[j]? = some o') (hg' : o'.guard = none) (hr : (Region.ready md ops listed == [k, j]) = true)
    (h : ∀ K' : Act → World → Prop, Shut (∀ a' w', (D k = false → S w') → wpAnyD P md ops Q S D fuel (listed.setIfInBounds k true) a' w' → K' a' w') → Oper.wp P o a w K' Q)
    (h' : ∀ K' : Act → World → Prop, Shut (∀ a' w', (D j = false → S w') → wpAnyD P md ops Q S D fuel (listed.setIfInBounds j true) a' w' → K' a' w') → Oper.wp P o' a w K' Q) : wpAnyD P md ops Q S D (fuel + 1) listed a w := by
  have hr' : Region.ready md ops listed = [k, j] := beq_iff_eq.1 hr
  refine ⟨fun e => (by rw [hr'] at e; cases e), fun i hi => ?_⟩
  rw [hr'] at hi
  rcases List.mem_cons.1 hi with rfl | hi
  · exact wpOp_step ho (fun K' hK => by rw [if_pos (by simp [Region.wanted, hg])]; exact h K' (fun a w hS hW => hK a w ⟨hS, hW⟩))
  · rw [List.mem_singleton] at hi
    subst hi
    exact wpOp_step ho' (fun K' hK => by rw [if_pos (by simp [Region.wanted, hg'])]; exact h' K' (fun a w hS hW => hK a w ⟨hS, hW⟩))
end
end Go.Proofs.Ytoenkkbcpafanaa.mix

/- A region that draws its order: those that need not show S may wait for a load by way of others. -/

namespace Go.Proofs.Ytoenkkbcpafanaa.mix
set_option linter.unusedVariables false
set_option linter.unusedSimpArgs false
open Go.RowKit Go.Proofs.Ytoenkkbcpafanaa.base

section
variable {P : Program} {ops : Array Oper} {md : Region.Mode} {S : World → Prop} {D : Nat → Bool} {Q : Exit → Act → World → Prop}
/-- what is listed stands behind what it waits for -/
def InvL (md : Region.Mode) (ops : Array Oper) (l : Array Bool) : Prop := ∀ m om, ops[m]? = some om → l.getD m false = true → ∀ e ∈ om.after, Region.binds md e = true → l.getD e.on false = true
theorem getDL_set_true {l : Array Bool} {m j : Nat} (h : l.getD m false = true) : (l.setIfInBounds j true).getD m false = true := by
  simp only [Array.getD_eq_getD_getElem?, Array.getElem?_setIfInBounds] at h ⊢
  by_cases hj : j = m
  · subst hj
    rcases Nat.lt_or_ge j l.size with h' | h'
    · simp [h']
    · simp [Array.getElem?_eq_none h'] at h
  · simp [hj, h]
theorem readyL_after {l : Array Bool} {j : Nat} (h : j ∈ Region.ready md ops l) {oj : Oper} (ho : ops[j]? = some oj) : ∀ e ∈ oj.after, Region.binds md e = true → l.getD e.on false = true := by
  obtain ⟨_, o, ho', ha⟩ := mem_ready.1 h
  rw [ho] at ho'; cases ho'
  exact ha
theorem InvL.set {l : Array Bool} (h : InvL md ops l) {j : Nat} (hj : j ∈ Region.ready md ops l) : InvL md ops (l.setIfInBounds j true) := by
  intro m om hm hl e he hb
  by_cases hjm : j = m
  · subst hjm
    exact getDL_set_true (readyL_after hj hm e he hb)
  · refine getDL_set_true (h m om hm ?_ e he hb)
    simpa [Array.getD_eq_getD_getElem?, Array.getElem?_setIfInBounds, hjm] using hl
/-- those among the first n that wait for number i, by way of others too -/
def waitL (md : Region.Mode) (ops : Array Oper) (i : Nat) : Nat → Array Bool
  | 0 => Array.replicate ops.size false
  | n + 1 => (waitL md ops i n).setIfInBounds n (match ops[n]? with | some o => o.after.any fun e => Region.binds md e && (e.on == i || (waitL md ops i n).getD e.on false) | none => false)
theorem waitL_spec {i : Nat} : ∀ (n j : Nat), (waitL md ops i n).getD j false = true → ∀ l, InvL md ops l → (l.getD j false = true ∨ j ∈ Region.ready md ops l) → l.getD i false = true
  | 0, j, h => by
    rw [waitL, Array.getD_eq_getD_getElem?, Array.getElem?_replicate] at h
    split at h <;> simp at h
  | n + 1, j, h => by
    intro l hI hl
    rw [waitL, Array.getD_eq_getD_getElem?, Array.getElem?_setIfInBounds] at h
    by_cases hj : n = j
    · subst hj
      rw [if_pos rfl] at h
      split at h
      · simp only [Option.getD_some] at h
        cases ho : ops[n]? with
        | none => rw [ho] at h; simp at h
        | some o =>
          rw [ho] at h
          simp only at h
          obtain ⟨e, he, h2⟩ := Array.any_eq_true'.1 h
          rw [Bool.and_eq_true, Bool.or_eq_true, beq_iff_eq] at h2
          have hel : l.getD e.on false = true := by
            rcases hl with hl | hl
            · exact hI n o ho hl e he h2.1
            · exact readyL_after hl ho e he h2.1
          rcases h2.2 with h3 | h3
          · rw [← h3]; exact hel
          · exact waitL_spec n e.on h3 l hI (.inl hel)
      · simp at h
    · rw [if_neg hj] at h
      exact waitL_spec n j (by rw [Array.getD_eq_getD_getElem?]; exact h) l hI hl
def waitT (md : Region.Mode) (ops : Array Oper) (D : Nat → Bool) (i : Nat) : Bool := (List.range ops.size).all fun j => !D j || (waitL md ops i ops.size).getD j false
def closedL (md : Region.Mode) (ops : Array Oper) (l : Array Bool) : Bool := (List.range ops.size).all fun m => !l.getD m false || (match ops[m]? with | some o => o.after.all fun e => !Region.binds md e || l.getD e.on false | none => true)
theorem closedL_spec {l : Array Bool} (h : closedL md ops l = true) : InvL md ops l := by
  intro m om hm hl e he hb
  have hlt : m < ops.size := (Array.getElem?_eq_some_iff.1 hm).1
  have h1 := List.all_eq_true.1 h m (List.mem_range.2 hlt)
  rw [hl, hm] at h1
  simp only [Bool.not_true, Bool.false_or] at h1
  have h2 := Array.all_eq_true_iff_forall_mem.1 h1 e he
  rw [hb] at h2
  simpa using h2
theorem D_firstT {i : Nat} {oi : Oper} {v : Value} (hi : ops[i]? = some oi) (hsel : ∀ (j : Nat) (o : Oper) cs b, ops[j]? = some o → o.op ≠ .select cs b)
    (hQ : ∀ c a w, Q (.panic c) (a.put oi.dst v) w → Q (.panic c) a w) (hD : ∀ l, InvL md ops l → ∀ j oj, ops[j]? = some oj → D j = true → j ∈ Region.ready md ops l → l.getD i false = true) :
    ∀ (fuel : Nat) (listed : Array Bool) (a : Act) (w : World), InvL md ops listed →
      (∀ j oj, ops[j]? = some oj → j ≠ i → listed.getD j true = false → (∀ e ∈ oj.after, Region.binds md e = true → e.on ≠ i) → oi.apart ops oj = true) →
      i ∈ Region.ready md ops listed → YieldsIf P ops S oi v a → S w →
      wpAnyD P md ops Q S D fuel (listed.setIfInBounds i true) (a.put oi.dst v) w → wpAnyD P md ops Q S D (fuel + 1) listed a w := by
  intro fuel
  induction fuel with
  | zero =>
    intro listed a w _ _ hr hy hS H
    refine ⟨fun h => (by rw [h] at hr; cases hr), fun j hj => ?_⟩
    by_cases hji : j = i
    · subst hji; exact hy.wpOp hi hS ⟨fun _ => hS, H⟩
    · have := ready_mono hj hji
      rw [H.1] at this
      cases this
  | succ fuel ih =>
    intro listed a w hI hfree hr hy hS H
    refine ⟨fun h => (by rw [h] at hr; cases hr), fun j hj => ?_⟩
    by_cases hji : j = i
    · subst hji; exact hy.wpOp hi hS ⟨fun _ => hS, H⟩
    · have h1 := H.2 j (ready_mono hj hji)
      obtain ⟨hjun, oj, hoj, hall⟩ := mem_ready.1 hj
      have hnot : ∀ e ∈ oj.after, Region.binds md e = true → e.on ≠ i := fun e he hb heq => by
        have h1 := hall e he hb
        have h0 := (mem_ready.1 hr).1
        rw [heq] at h1
        rcases Nat.lt_or_ge i listed.size with h' | h'
        · simp [h'] at h0 h1; rw [h0] at h1; cases h1
        · simp [Array.getElem?_eq_none h'] at h1
      have hDj : D j = false := by
        cases hd : D j with
        | false => rfl
        | true =>
          have h1 := hD listed hI j oj hoj hd hj
          have h0 := (mem_ready.1 hr).1
          rcases Nat.lt_or_ge i listed.size with h' | h'
          · simp [h'] at h0 h1; rw [h0] at h1; cases h1
          · simp [Array.getElem?_eq_none h'] at h1
      have h2 := wpOp_putIf hoj (hfree j oj hoj hji hjun hnot) (fun cs b => hsel i oi cs b hi) (fun cs b => hsel j oj cs b hoj) hQ hy h1
      have hfree' : ∀ k ok, ops[k]? = some ok → k ≠ i → (listed.setIfInBounds j true).getD k true = false →
          (∀ e ∈ ok.after, Region.binds md e = true → e.on ≠ i) → oi.apart ops ok = true := fun k ok hk hki hun hno => by
        refine hfree k ok hk hki ?_ hno
        by_cases hjk : j = k
        · subst hjk; exact hjun
        · rw [getD_set_ne true hjk] at hun; exact hun
      refine wpOp_mono (fun a' w' h3 => ⟨fun _ => h3.2.1 hDj, ih (listed.setIfInBounds j true) a' w' (hI.set hj) hfree' (ready_mono hr (Ne.symm hji)) h3.1 (h3.2.1 hDj) ?_⟩) h2
      rw [Array.setIfInBounds_comm _ _ hji]
      exact h3.2.2
theorem waitT_spec {i : Nat} (h : waitT md ops D i = true) : ∀ l, InvL md ops l → ∀ j oj, ops[j]? = some oj → D j = true → j ∈ Region.ready md ops l → l.getD i false = true := by
  intro l hI j oj hoj hd hr
  have hlt : j < ops.size := (Array.getElem?_eq_some_iff.1 hoj).1
  have h1 := List.all_eq_true.1 h j (List.mem_range.2 hlt)
  rw [hd] at h1
  simp only [Bool.not_true, Bool.false_or] at h1
  exact waitL_spec _ j h1 l hI (.inr hr)
/-- take number i first: those that need not show S wait for it, by way of others too -/
theorem D_takeT {i : Nat} {oi : Oper} {v : Value} {fuel : Nat} {listed : Array Bool} {a : Act} {w : World} (hi : ops[i]? = some oi)
    (hs : Region.noSelect ops = true) (hf : (Region.free md ops listed i && (Region.ready md ops listed).contains i && waitT md ops D i && closedL md ops listed) = true)
    (hQ : ∀ c a w, Q (.panic c) (a.put oi.dst v) w → Q (.panic c) a w) (hy : YieldsIf P ops S oi v a) (hS : S w)
    (h : wpAnyD P md ops Q S D fuel (listed.setIfInBounds i true) (a.put oi.dst v) w) : wpAnyD P md ops Q S D (fuel + 1) listed a w := by
  simp only [Bool.and_eq_true] at hf
  exact D_firstT hi (Region.noSelect_spec hs) hQ (waitT_spec hf.1.2) fuel listed a w (closedL_spec hf.2) (Region.free_spec hi hf.1.1.1) (by simpa using hf.1.1.2) hy hS h
end
end Go.Proofs.Ytoenkkbcpafanaa.mix

/- Append of one element to a row of the call's own, by blocks. -/

namespace Go.Proofs.Ytoenkkbcpafanaa.trees
set_option linter.unusedVariables false
set_option linter.unusedSimpArgs false
open Go.RowKit Go.Proofs.Ytoenkkbcpafanaa.base Go.Proofs.Ytoenkkbcpafanaa.vers Go.Proofs.Ytoenkkbcpafanaa.nodes

section
variable {P : Program}
theorem run_put1 {e tS ty : TypeId} {i0 : TypeInfo} {z : Value} {size bytes : Nat} (hun : P.underlying tS = some (.slice e)) (hi0 : P.info? e = some i0) (hz0 : i0.zero = some z) (hz1 : i0.size = size) (hz2 : i0.bytes = bytes) (hzs : z.cells.size = size) (hsz : 0 < size)
    {w : World} {v : Value} {n : Nat} {xs : List Value} {cs : Array Value} (hown : w.ownsRow 0 e size v n xs) (hcs : cs.toList.length = size) (h1 : ∀ u ∈ cs.toList, u.oneCell' = true) (hlen : (n + 1) * bytes ≤ 140737488355328) (hmax : n + 1 ≤ maxLen) :
    ∃ v' w', (Builtin.append_ #[tS, tS] ty #[v, .slice (some ⟨w.heap.size, 0, none⟩) 1 1]).run P (w.alloc (.cells cs e)) = .ok v' w' ∧ w'.ownsRow 0 e size v' (n + 1) (xs ++ cs.toList) ∧ Keep (fun g => v.ownBlock = some g) w w' ∧ (∀ g, v'.ownBlock = some g → v.ownBlock = some g ∨ (w.heap.size ≤ g ∧ g < w'.heap.size)) ∧ w.heap.size + 1 ≤ w'.heap.size := by
  have hownA : (w.alloc (.cells cs e)).ownsRow 0 e size v n xs := row_below hown ((Below.refl _ _).alloc (Nat.le_refl _) _)
  have hnews := World.news_of_block (cs := cs) (t := e) (fr := (0, 0)) (heap_alloc_new w (.cells cs e))
  obtain ⟨v', w', hr, ho', hg, _, hat⟩ := run_append_own_at (P := P) (w.alloc (.cells cs e)) 0 tS ty e i0 z size bytes hun hi0 hz0 hz1 hz2 hzs hsz v n xs hownA ⟨w.heap.size, 0, none⟩ 1 1 cs.toList (by omega) hnews h1 hmax hlen (Nat.zero_le _)
  have hz := hg.size
  simp only [World.size_alloc] at hz
  have hlt := ho'.lt
  refine ⟨v', w', hr, ho', ⟨hg.os, hg.tape, hg.output, by omega, fun k hk hn => ?_⟩, fun g hg' => ?_, hz⟩
  · exact (hg.block k (by simp; omega) (fun e => hn e.symm)).trans (Below.heap_alloc w _ k hk)
  · rcases hat with e1 | e1
    · exact .inl (e1 ▸ hg')
    · rw [e1] at hg'
      injection hg' with hg'
      simp only [World.size_alloc] at hg'
      have := hlt g (by rw [e1]; simp; omega)
      exact .inr ⟨by omega, this.2⟩
theorem wp_put1 {e tS : TypeId} {i0 : TypeInfo} {z : Value} {size bytes : Nat} (hun : P.underlying tS = some (.slice e)) (hi0 : P.info? e = some i0) (hz0 : i0.zero = some z) (hz1 : i0.size = size) (hz2 : i0.bytes = bytes) (hzs : z.cells.size = size) (hsz : 0 < size)
    {o : Oper} {a : Act} {K : Act → World → Prop} {Q : Exit → Act → World → Prop} (s x : Operand) (ho : o.op = .call { callee := .builtin .append, args := #[s, x], argTypes := #[tS, tS] })
    {w : World} {v : Value} {n : Nat} {xs : List Value} {cs : Array Value} (hown : w.ownsRow 0 e size v n xs) (hs : a.eval s = v) (hcs : cs.toList.length = size) (h1 : ∀ u ∈ cs.toList, u.oneCell' = true) {q : Nat} (hx : a.eval x = .slice (some ⟨q, 0, none⟩) 1 1) (hqz : q = w.heap.size) (hlen : (n + 1) * bytes ≤ 140737488355328) (hmax : n + 1 ≤ maxLen)
    (h : ∀ v' w', w'.ownsRow 0 e size v' (n + 1) (xs ++ cs.toList) → Keep (fun g => v.ownBlock = some g) w w' → (∀ g, v'.ownBlock = some g → v.ownBlock = some g ∨ (w.heap.size ≤ g ∧ g < w'.heap.size)) → w.heap.size + 1 ≤ w'.heap.size → K (a.put o.dst v') w') :
    Oper.wp P o a (w.alloc (.cells cs e)) K Q := by
  subst hqz
  obtain ⟨v', w', hr, h2, h3, h4, h5⟩ := run_put1 (ty := o.type) hun hi0 hz0 hz1 hz2 hzs hsz hown hcs h1 hlen hmax
  unfold Oper.wp execOp
  simp only [ho, resolve, invoke, builtin, Sem.run_bind, Sem.run_pure, Result.andThen_ok, List.map_toArray, List.map_cons, List.map_nil, hs, hx, hr]
  exact h v' w' h2 h3 h4 h5
theorem wpList_put1 {e tS : TypeId} {i0 : TypeInfo} {z : Value} {size bytes : Nat} (hun : P.underlying tS = some (.slice e)) (hi0 : P.info? e = some i0) (hz0 : i0.zero = some z) (hz1 : i0.size = size) (hz2 : i0.bytes = bytes) (hzs : z.cells.size = size) (hsz : 0 < size)
    {ops : Array Oper} {rest : List Oper} {o : Oper} {a : Act} {Q : Exit → Act → World → Prop} (hgd : o.guard = none) (s x : Operand) (ho : o.op = .call { callee := .builtin .append, args := #[s, x], argTypes := #[tS, tS] })
    {w : World} {v : Value} {n : Nat} {xs : List Value} {cs : Array Value} (hown : w.ownsRow 0 e size v n xs) (hs : a.eval s = v) (hcs : cs.toList.length = size) (h1 : ∀ u ∈ cs.toList, u.oneCell' = true) {q : Nat} (hx : a.eval x = .slice (some ⟨q, 0, none⟩) 1 1) (hqz : q = w.heap.size) (hlen : (n + 1) * bytes ≤ 140737488355328) (hmax : n + 1 ≤ maxLen)
    (h : ∀ v' w', w'.ownsRow 0 e size v' (n + 1) (xs ++ cs.toList) → Keep (fun g => v.ownBlock = some g) w w' → (∀ g, v'.ownBlock = some g → v.ownBlock = some g ∨ (w.heap.size ≤ g ∧ g < w'.heap.size)) → w.heap.size + 1 ≤ w'.heap.size → wpList P ops Q rest (a.put o.dst v') w') :
    wpList P ops Q (o :: rest) a (w.alloc (.cells cs e)) :=
  wpList_plain hgd fun _ hK => wp_put1 hun hi0 hz0 hz1 hz2 hzs hsz s x ho hown hs hcs h1 hx hqz hlen hmax fun v' w' h2 h3 h4 h5 => hK _ _ (h v' w' h2 h3 h4 h5)
end
end Go.Proofs.Ytoenkkbcpafanaa.trees
