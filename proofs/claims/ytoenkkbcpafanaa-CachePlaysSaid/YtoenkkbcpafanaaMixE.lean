/- A region that draws its order: those that need not show S may wait for a load by way of others. -/
import Derived.Test.YtoenkkbcpafanaaMixD


namespace Go.Proofs.Ytoenkkbcpafanaa.mix
set_option linter.unusedVariables false
set_option linter.unusedSimpArgs false
open Go.RowKit Go.Proofs.Ytoenkkbcpafanaa.base

section
variable {P : Program} {ops : Array Oper} {md : Region.Mode} {S : World → Prop} {D : Nat → Bool} {Q : Exit → Act → World → Prop}
/-- what is listed stands behind what it waits for -/
def InvL (md : Region.Mode) (ops : Array Oper) (l : Array Bool) : Prop := ∀ m om, ops[m]? = some om → l.getD m false = true → ∀ e ∈ om.after, Region.binds md e = true → l.getD e.on false = true
theorem getDL_set_true {l : Array Bool} {m j : Nat} (h : l.getD m false = true) : (l.setIfInBounds j true).getD m false = true := by
  simp only [Array.getD_eq_getD_getElem?, Array.getElem?_setIfInBounds] at h ⊢
  by_cases hj : j = m
  · subst hj
    rcases Nat.lt_or_ge j l.size with h' | h'
    · simp [h']
    · simp [Array.getElem?_eq_none h'] at h
  · simp [hj, h]
theorem readyL_after {l : Array Bool} {j : Nat} (h : j ∈ Region.ready md ops l) {oj : Oper} (ho : ops[j]? = some oj) : ∀ e ∈ oj.after, Region.binds md e = true → l.getD e.on false = true := by
  obtain ⟨_, o, ho', ha⟩ := mem_ready.1 h
  rw [ho] at ho'; cases ho'
  exact ha
theorem InvL.set {l : Array Bool} (h : InvL md ops l) {j : Nat} (hj : j ∈ Region.ready md ops l) : InvL md ops (l.setIfInBounds j true) := by
  intro m om hm hl e he hb
  by_cases hjm : j = m
  · subst hjm
    exact getDL_set_true (readyL_after hj hm e he hb)
  · refine getDL_set_true (h m om hm ?_ e he hb)
    simpa [Array.getD_eq_getD_getElem?, Array.getElem?_setIfInBounds, hjm] using hl
/-- those among the first n that wait for number i, by way of others too -/
def waitL (md : Region.Mode) (ops : Array Oper) (i : Nat) : Nat → Array Bool
  | 0 => Array.replicate ops.size false
  | n + 1 => (waitL md ops i n).setIfInBounds n (match ops[n]? with | some o => o.after.any fun e => Region.binds md e && (e.on == i || (waitL md ops i n).getD e.on false) | none => false)
theorem waitL_spec {i : Nat} : ∀ (n j : Nat), (waitL md ops i n).getD j false = true → ∀ l, InvL md ops l → (l.getD j false = true ∨ j ∈ Region.ready md ops l) → l.getD i false = true
  | 0, j, h => by
    rw [waitL, Array.getD_eq_getD_getElem?, Array.getElem?_replicate] at h
    split at h <;> simp at h
  | n + 1, j, h => by
    intro l hI hl
    rw [waitL, Array.getD_eq_getD_getElem?, Array.getElem?_setIfInBounds] at h
    by_cases hj : n = j
    · subst hj
      rw [if_pos rfl] at h
      split at h
      · simp only [Option.getD_some] at h
        cases ho : ops[n]? with
        | none => rw [ho] at h; simp at h
        | some o =>
          rw [ho] at h
          simp only at h
          obtain ⟨e, he, h2⟩ := Array.any_eq_true'.1 h
          rw [Bool.and_eq_true, Bool.or_eq_true, beq_iff_eq] at h2
          have hel : l.getD e.on false = true := by
            rcases hl with hl | hl
            · exact hI n o ho hl e he h2.1
            · exact readyL_after hl ho e he h2.1
          rcases h2.2 with h3 | h3
          · rw [← h3]; exact hel
          · exact waitL_spec n e.on h3 l hI (.inl hel)
      · simp at h
    · rw [if_neg hj] at h
      exact waitL_spec n j (by rw [Array.getD_eq_getD_getElem?]; exact h) l hI hl
def waitT (md : Region.Mode) (ops : Array Oper) (D : Nat → Bool) (i : Nat) : Bool := (List.range ops.size).all fun j => !D j || (waitL md ops i ops.size).getD j false
def closedL (md : Region.Mode) (ops : Array Oper) (l : Array Bool) : Bool := (List.range ops.size).all fun m => !l.getD m false || (match ops[m]? with | some o => o.after.all fun e => !Region.binds md e || l.getD e.on false | none => true)
theorem closedL_spec {l : Array Bool} (h : closedL md ops l = true) : InvL md ops l := by
  intro m om hm hl e he hb
  have hlt : m < ops.size := (Array.getElem?_eq_some_iff.1 hm).1
  have h1 := List.all_eq_true.1 h m (List.mem_range.2 hlt)
  rw [hl, hm] at h1
  simp only [Bool.not_true, Bool.false_or] at h1
  have h2 := Array.all_eq_true_iff_forall_mem.1 h1 e he
  rw [hb] at h2
  simpa using h2
theorem D_firstT {i : Nat} {oi : Oper} {v : Value} (hi : ops[i]? = some oi) (hsel : ∀ (j : Nat) (o : Oper) cs b, ops[j]? = some o → o.op ≠ .select cs b)
    (hQ : ∀ c a w, Q (.panic c) (a.put oi.dst v) w → Q (.panic c) a w) (hD : ∀ l, InvL md ops l → ∀ j oj, ops[j]? = some oj → D j = true → j ∈ Region.ready md ops l → l.getD i false = true) :
    ∀ (fuel : Nat) (listed : Array Bool) (a : Act) (w : World), InvL md ops listed →
      (∀ j oj, ops[j]? = some oj → j ≠ i → listed.getD j true = false → (∀ e ∈ oj.after, Region.binds md e = true → e.on ≠ i) → oi.apart ops oj = true) →
      i ∈ Region.ready md ops listed → YieldsIf P ops S oi v a → S w →
      wpAnyD P md ops Q S D fuel (listed.setIfInBounds i true) (a.put oi.dst v) w → wpAnyD P md ops Q S D (fuel + 1) listed a w := by
  intro fuel
  induction fuel with
  | zero =>
    intro listed a w _ _ hr hy hS H
    refine ⟨fun h => (by rw [h] at hr; cases hr), fun j hj => ?_⟩
    by_cases hji : j = i
    · subst hji; exact hy.wpOp hi hS ⟨fun _ => hS, H⟩
    · have := ready_mono hj hji
      rw [H.1] at this
      cases this
  | succ fuel ih =>
    intro listed a w hI hfree hr hy hS H
    refine ⟨fun h => (by rw [h] at hr; cases hr), fun j hj => ?_⟩
    by_cases hji : j = i
    · subst hji; exact hy.wpOp hi hS ⟨fun _ => hS, H⟩
    · have h1 := H.2 j (ready_mono hj hji)
      obtain ⟨hjun, oj, hoj, hall⟩ := mem_ready.1 hj
      have hnot : ∀ e ∈ oj.after, Region.binds md e = true → e.on ≠ i := fun e he hb heq => by
        have h1 := hall e he hb
        have h0 := (mem_ready.1 hr).1
        rw [heq] at h1
        rcases Nat.lt_or_ge i listed.size with h' | h'
        · simp [h'] at h0 h1; rw [h0] at h1; cases h1
        · simp [Array.getElem?_eq_none h'] at h1
      have hDj : D j = false := by
        cases hd : D j with
        | false => rfl
        | true =>
          have h1 := hD listed hI j oj hoj hd hj
          have h0 := (mem_ready.1 hr).1
          rcases Nat.lt_or_ge i listed.size with h' | h'
          · simp [h'] at h0 h1; rw [h0] at h1; cases h1
          · simp [Array.getElem?_eq_none h'] at h1
      have h2 := wpOp_putIf hoj (hfree j oj hoj hji hjun hnot) (fun cs b => hsel i oi cs b hi) (fun cs b => hsel j oj cs b hoj) hQ hy h1
      have hfree' : ∀ k ok, ops[k]? = some ok → k ≠ i → (listed.setIfInBounds j true).getD k true = false →
          (∀ e ∈ ok.after, Region.binds md e = true → e.on ≠ i) → oi.apart ops ok = true := fun k ok hk hki hun hno => by
        refine hfree k ok hk hki ?_ hno
        by_cases hjk : j = k
        · subst hjk; exact hjun
        · rw [getD_set_ne true hjk] at hun; exact hun
      refine wpOp_mono (fun a' w' h3 => ⟨fun _ => h3.2.1 hDj, ih (listed.setIfInBounds j true) a' w' (hI.set hj) hfree' (ready_mono hr (Ne.symm hji)) h3.1 (h3.2.1 hDj) ?_⟩) h2
      rw [Array.setIfInBounds_comm _ _ hji]
      exact h3.2.2
theorem waitT_spec {i : Nat} (h : waitT md ops D i = true) : ∀ l, InvL md ops l → ∀ j oj, ops[j]? = some oj → D j = true → j ∈ Region.ready md ops l → l.getD i false = true := by
  intro l hI j oj hoj hd hr
  have hlt : j < ops.size := (Array.getElem?_eq_some_iff.1 hoj).1
  have h1 := List.all_eq_true.1 h j (List.mem_range.2 hlt)
  rw [hd] at h1
  simp only [Bool.not_true, Bool.false_or] at h1
  exact waitL_spec _ j h1 l hI (.inr hr)
/-- take number i first: those that need not show S wait for it, by way of others too -/
theorem D_takeT {i : Nat} {oi : Oper} {v : Value} {fuel : Nat} {listed : Array Bool} {a : Act} {w : World} (hi : ops[i]? = some oi)
    (hs : Region.noSelect ops = true) (hf : (Region.free md ops listed i && (Region.ready md ops listed).contains i && waitT md ops D i && closedL md ops listed) = true)
    (hQ : ∀ c a w, Q (.panic c) (a.put oi.dst v) w → Q (.panic c) a w) (hy : YieldsIf P ops S oi v a) (hS : S w)
    (h : wpAnyD P md ops Q S D fuel (listed.setIfInBounds i true) (a.put oi.dst v) w) : wpAnyD P md ops Q S D (fuel + 1) listed a w := by
  simp only [Bool.and_eq_true] at hf
  exact D_firstT hi (Region.noSelect_spec hs) hQ (waitT_spec hf.1.2) fuel listed a w (closedL_spec hf.2) (Region.free_spec hi hf.1.1.1) (by simpa using hf.1.1.2) hy hS h
end
end Go.Proofs.Ytoenkkbcpafanaa.mix
