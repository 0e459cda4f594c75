/- What package entry's renewed answers: two lists of the call's own, in blocks apart. -/
import Derived.Test.YtolngibmfffjcaaVerW
import Derived.Deep.DeepCutAuto
import Derived.Deep.RegionHeld3


namespace Go.Proofs.Ytolngibmfffjcaa.vers
set_option linter.unusedVariables false
set_option linter.unusedSimpArgs false
open Go.RowKit Go.Proofs.Ytolngibmfffjcaa.base Go.Proofs.Ytolngibmfffjcaa.quotas

theorem cellsV_from : ∀ (l : List V) (k : Nat), cellsV (l.drop k) = (cellsV l).drop (3 * k)
  | l, 0 => rfl
  | [], k + 1 => by simp [cellsV]
  | x :: l, k + 1 => by
    rw [List.drop_succ_cons, cellsV_from l k, cellsV, show 3 * (k + 1) = x.cells.length + 3 * k by simp [V.cells]; omega, List.drop_append, List.drop_eq_nil_of_le (Nat.le_add_right _ _), List.nil_append, Nat.add_sub_cancel_left]
theorem Vs.from_ {w : World} {B : Nat} {l : List V} {b o c : Nat} (h : Vs w B l (some ⟨b, o, none⟩) c) (k : Nat) : Vs w B (l.drop k) (some ⟨b, o + k * 3, none⟩) (c - k) := by
  obtain ⟨h1, h2, h3, h4, h5⟩ := h
  refine ⟨by rw [List.length_drop]; omega, by rw [List.length_drop]; omega, (fun e => by cases e), fun j u hj => ?_, fun x hx => h5 x (List.mem_of_mem_drop hx)⟩
  rw [cellsV_from, List.getElem?_drop] at hj
  obtain ⟨b', o', e, hb, hc⟩ := h4 _ _ hj
  cases e
  exact ⟨b, o + k * 3, rfl, hb, by rw [show o + k * 3 + j = o + (3 * k + j) by omega]; exact hc⟩
theorem elemV : Try.prog.elem 24 = 39 := by kernel_rfl
theorem Vs.any_nil (w : World) (B : Nat) (A : Option Addr) (c : Nat) (h : A = none → c = 0) : Vs w B [] A c := ⟨Nat.zero_le _, by simp, h, Rd.nil _ _ _, fun x hx => by cases hx⟩
/-- what s[k:] of versions is -/
theorem run_from {w : World} {B : Nat} {l : List V} {A : Option Addr} {cap : Nat} (hv : Vs w B l A cap) (k : Nat) (hk : k ≤ l.length) :
    ∃ A' c', (∀ u : World, (Instr.slice 24 (.slice A l.length cap) (some (.int .i64 (k : Int))) none none).run Try.prog u = .ok (.slice A' (l.drop k).length c') u) ∧ Vs w B (l.drop k) A' c' := by
  obtain ⟨i0, hi, hz0, hz1, hz2⟩ := info_parts infoV
  have hrun : ∀ u : World, (Instr.slice 24 (.slice A l.length cap) (some (.int .i64 (k : Int))) none none).run Try.prog u = .ok (sliced A k l.length cap 3) u := fun u => by
    rw [run_slice_l u 24 A l.length cap (by rw [elemV]; exact Try.underlying24) .i64 k (by omega) (by omega)]
    simp [elemV, sizeOf, typeInfo, hi, hz1, Result.andThen]
  have hlen : (l.drop k).length = l.length - k := List.length_drop
  unfold sliced at hrun
  by_cases hck : cap = k
  · have hl : l.length = k := by have := hv.1; omega
    have h0 : l.drop k = [] := List.drop_eq_nil_of_le (by omega)
    refine ⟨A, 0, fun u => ?_, by rw [h0]; exact Vs.any_nil _ _ _ _ (fun _ => rfl)⟩
    rw [hrun u, h0, hck, hl]
    simp
  · by_cases h0 : l = []
    · subst h0
      simp only [List.length_nil, Nat.le_zero] at hk
      subst hk
      refine ⟨_, cap - 0, fun u => hrun u, Vs.any_nil _ _ _ _ ?_⟩
      intro e
      cases A with
      | none => exact hv.2.2.1 rfl
      | some ad => simp [hck] at e
    · obtain ⟨b, off, e, hb, _⟩ := hv.at_ (j := 0) (by cases l with | nil => exact absurd rfl h0 | cons _ _ => simp)
      subst e
      refine ⟨some ⟨b, off + k * 3, none⟩, cap - k, fun u => ?_, hv.from_ k⟩
      rw [hrun u, hlen]
      simp [hck, add_plain]
/-- what s[:k] of versions is -/
theorem run_upto {w : World} {B : Nat} {l : List V} {A : Option Addr} {cap : Nat} (hv : Vs w B l A cap) (k : Nat) (hk : k ≤ l.length) :
    ∃ A' c', (∀ u : World, (Instr.slice 24 (.slice A l.length cap) none (some (.int .i64 (k : Int))) none).run Try.prog u = .ok (.slice A' (l.take k).length c') u) ∧ Vs w B (l.take k) A' c' := by
  obtain ⟨i0, hi, hz0, hz1, hz2⟩ := info_parts infoV
  have h1 := hv.1
  have hrun : ∀ u : World, (Instr.slice 24 (.slice A l.length cap) none (some (.int .i64 (k : Int))) none).run Try.prog u = .ok (sliced A 0 k cap 3) u := fun u => by
    rw [run_slice_h u 24 A l.length cap (by rw [elemV]; exact Try.underlying24) .i64 k (by omega) (by omega)]
    simp [elemV, sizeOf, typeInfo, hi, hz1, Result.andThen]
  have hlen : (l.take k).length = k := by rw [List.length_take]; omega
  unfold sliced at hrun
  refine ⟨A, cap, fun u => ?_, ?_⟩
  · rw [hrun u, hlen]
    cases A with
    | none => simp
    | some ad => simp [Addr.add]
  · obtain ⟨h1, h2, h3, h4, h5⟩ := hv
    refine ⟨by omega, by omega, h3, fun j u hj => h4 j u ?_, fun x hx => h5 x (List.mem_of_mem_take hx)⟩
    have e : cellsV l = cellsV (l.take k) ++ cellsV (l.drop k) := by rw [← cellsV_app, List.take_append_drop]
    rw [e]
    rw [List.getElem?_append_left (by rcases Nat.lt_or_ge j (cellsV (l.take k)).length with h | h; exact h; rw [List.getElem?_eq_none h] at hj; cases hj)]
    exact hj
end Go.Proofs.Ytolngibmfffjcaa.vers
