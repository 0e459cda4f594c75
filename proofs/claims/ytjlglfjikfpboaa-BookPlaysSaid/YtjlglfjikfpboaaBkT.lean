/- The values that were put, in pure words; a set's datum. -/
import Derived.Test.YtjlglfjikfpboaaBkAE
import Derived.Test.YtjlglfjikfpboaaEtB


namespace Go.Proofs.Ytjlglfjikfpboaa.books
set_option linter.unusedVariables false
set_option linter.unusedSimpArgs false
open Go.RowKit Go.Proofs.Ytjlglfjikfpboaa.base Go.Proofs.Ytjlglfjikfpboaa.quotas Go.Proofs.Ytjlglfjikfpboaa.vers Go.Proofs.Ytjlglfjikfpboaa.nodes Go.Proofs.Ytjlglfjikfpboaa.trees Go.Proofs.Ytjlglfjikfpboaa.texts

def wereP (P : List (List UInt8)) (ops : List O) : List (List UInt8) := ops.foldl (fun P o => if o.k ≠ 3 then insD (bn o.v) P false else P) P
structure Bk where
  L : List PB
  P : List (List UInt8)
def playP (q : Qt) (b : Bk) (ops : List O) : Bk × Int × Int :=
  if (behindP q b.L ops).2.1 ≠ 0 then (b, (behindP q b.L ops).2) else (⟨(behindP q b.L ops).1, wereP b.P ops⟩, 0, 0)

def DT (P : List (List UInt8)) : DataW Value := .map (P.map fun s => (.string s, .agg []))
theorem DT_ins (s : List UInt8) : ∀ P : List (List UInt8), P.Pairwise (· < ·) → DataW.insert (Lit.string s, .agg []) ((P.map fun s => (Lit.string s, DataW.agg (H := Value) [])).filter fun p => !p.1.sameKey (.string s)) = (insD s P false).map fun s => (Lit.string s, DataW.agg [])
  | [], _ => by simp [DataW.insert, insD]
  | x :: r, h => by
    obtain ⟨h1, h2⟩ := List.pairwise_cons.1 h
    have ih := DT_ins s r h2
    have keep : (∀ y ∈ r, s < y) → ((r.map fun s => (Lit.string s, DataW.agg (H := Value) [])).filter fun p => !p.1.sameKey (.string s)) = r.map fun s => (Lit.string s, DataW.agg []) := fun hy => by
      refine List.filter_eq_self.2 fun p hp => ?_
      obtain ⟨y, hy1, rfl⟩ := List.mem_map.1 hp
      have : y ≠ s := fun e => by have := hy y hy1; rw [e] at this; exact bn_irrefl _ this
      simp [Lit.sameKey, this]
    have first : (∀ y ∈ r, s < y) → DataW.insert (Lit.string s, .agg []) (r.map fun s => (Lit.string s, DataW.agg (H := Value) [])) = (Lit.string s, .agg []) :: r.map fun s => (Lit.string s, DataW.agg []) := fun hy => by
      cases r with
      | nil => rfl
      | cons y r => rw [List.map_cons, DataW.insert, if_pos (by simp only [Lit.before, before_eq]; exact decide_eq_true (hy y List.mem_cons_self))]
    rw [List.map_cons, List.filter_cons]
    simp only [insD, insD_done, Bool.false_eq_true, if_false]
    by_cases e : s = x
    · subst e
      rw [if_neg (by simp [Lit.sameKey]), if_pos rfl, keep h1, first h1]; rfl
    · rw [if_pos (by simp [Lit.sameKey]; exact fun e2 => e e2.symm), if_neg e]
      rw [DataW.insert]
      simp only [Lit.before, before_eq]
      by_cases hl : s < x
      · rw [if_pos (decide_eq_true hl), if_pos hl, keep fun y hy => List.lt_trans hl (h1 y hy)]; rfl
      · rw [if_neg (by simpa using hl), if_neg hl, ih]; rfl
theorem DT_put {P : List (List UInt8)} (h : P.Pairwise (· < ·)) (s : List UInt8) : (DT P).put (.string s) (.agg []) = DT (insD s P false) := by
  unfold DT DataW.put
  simp only []
  rw [DT_ins s P h]
theorem wereP_up : ∀ (ops : List O) (P : List (List UInt8)), P.Pairwise (· < ·) → (wereP P ops).Pairwise (· < ·)
  | [], _, h => h
  | o :: r, P, h => by
    have h2 : (if o.k ≠ 3 then insD (bn o.v) P false else P).Pairwise (· < ·) := by
      split
      · exact (insD_props _ _ h).1
      · exact h
    exact wereP_up r _ h2
theorem wereP_len : ∀ (ops : List O) (P : List (List UInt8)), (wereP P ops).length ≤ P.length + ops.length
  | [], _ => Nat.le_refl _
  | o :: r, P => by
    have := wereP_len r (if o.k ≠ 3 then insD (bn o.v) P false else P)
    have h2 := insD_len (bn o.v) P false
    rw [List.length_cons]
    show (wereP (if o.k ≠ 3 then insD (bn o.v) P false else P) r).length ≤ _
    split at this <;> rename_i hk
    · rw [if_pos hk]; omega
    · rw [if_neg hk]; omega
end Go.Proofs.Ytjlglfjikfpboaa.books
