/- The walk of BookShows. -/
import Derived.Test.YtjlglfjikfpboaaBkW


namespace Go.Proofs.Ytjlglfjikfpboaa.books
set_option linter.unusedVariables false
set_option linter.unusedSimpArgs false
open Go.RowKit Go.Shelf Go.Proofs.Ytjlglfjikfpboaa.base Go.Proofs.Ytjlglfjikfpboaa.quotas Go.Proofs.Ytjlglfjikfpboaa.vers Go.Proofs.Ytjlglfjikfpboaa.nodes Go.Proofs.Ytjlglfjikfpboaa.trees Go.Proofs.Ytjlglfjikfpboaa.texts

theorem addP_k {a b c d e f h : Int} {s : ByteArray} {l : List V} {v t : ByteArray} {kp : Int} (h0 : (addP a b c d e f h s l v t kp).bad = 0) : (addP a b c d e f h s l v t kp).k = l.drop ((l.length : Int) + 1 - kp).toNat ++ [⟨noOf l, v, t⟩] ∧ noOf l ≤ 1073741824 ∧ (l.length : Int) ≤ e := by
  unfold addP at h0 ⊢
  by_cases h1 : nbad a b c d e f h s l ≠ 0
  · rw [if_pos h1] at h0; exact absurd h0 h1
  · rw [if_neg h1] at h0 ⊢
    by_cases h2 : c < (v.size : Int) ∨ d < (t.size : Int)
    · rw [if_pos h2] at h0; cases h0
    · rw [if_neg h2] at h0 ⊢
      by_cases h3 : 1073741824 < noOf l
      · rw [if_pos h3] at h0; cases h0
      · rw [if_neg h3]
        exact ⟨rfl, by omega, (nbad_zero (Decidable.not_not.1 h1)).2.2⟩
theorem one_new {q : Qt} {L : List PB} {o : O} (h : (oneP q L o).2 = 0) (h3 : o.k ≠ 3) : (newP q L o).bad = 0 ∧ lk (oneP q L o).1 o.s = some (newP q L o).k := by
  have he := oneP_eff h o.s
  rw [if_pos rfl] at he
  constructor
  · rw [oneP_eq] at h
    by_cases h1 : rightO q o ≠ 0
    · rw [if_pos h1] at h; exact absurd h h1
    · rw [if_neg h1, if_neg h3] at h
      unfold renewP at h
      by_cases h4 : lk L o.s = none ∧ (L.length : Int) = q.a
      · rw [if_pos h4] at h; cases h
      · rw [if_neg h4] at h
        by_cases h5 : (newP q L o).bad ≠ 0
        · rw [if_pos h5] at h; exact absurd h h5
        · exact Decidable.not_not.1 h5
  · rw [he]; unfold effP newP; rw [if_neg h3]
theorem one_del {q : Qt} {L : List PB} {o : O} (h : (oneP q L o).2 = 0) (h3 : o.k = 3) : (getP L o.s).2.2 = true ∧ (getP (oneP q L o).1 o.s).2.2 = false := by
  have he := oneP_eff h o.s
  rw [if_pos rfl] at he
  unfold effP at he
  rw [if_pos h3] at he
  constructor
  · rw [oneP_eq] at h
    by_cases h1 : rightO q o ≠ 0
    · rw [if_pos h1] at h; exact absurd h h1
    · rw [if_neg h1, if_pos h3] at h
      unfold takeP at h
      unfold getP
      cases hl : lk L o.s with
      | none => rw [hl] at h; cases h
      | some l => rfl
  · unfold getP; rw [he]
theorem one_rest {q : Qt} (hk : q.ok) {L : List PB} (hI : Inv q L) {o : O} (h : (oneP q L o).2 = 0) : del (oneP q L o).1 o.s = del L o.s :=
  up_ext (del_up (hI.one hk o).up _) (del_up hI.up _) fun u => by
    by_cases hu : u = o.s
    · rw [hu, lk_del_same, lk_del_same]
    · rw [lk_del_other hu, lk_del_other hu, oneP_eff h, if_neg hu]
theorem getP_l (L : List PB) (s : ByteArray) : (getP L s).2.1 = (lk L s).getD [] := by
  unfold getP
  cases lk L s <;> rfl
theorem noOf_last (l : List V) : noOf l = (lastV l).1.n + 1 := by
  unfold noOf lastV
  cases l.getLast? <;> rfl
theorem lastV_fits {l : List V} (h : ∀ x ∈ l, x.fits) : (lastV l).1.fits := by
  unfold lastV
  cases hl : l.getLast? with
  | none => exact ⟨⟨by decide, by decide⟩, by decide, by decide⟩
  | some x => exact h x (List.mem_of_getLast? hl)
theorem lastV_snoc (l : List V) (x : V) : lastV (l ++ [x]) = (x, true) := by
  unfold lastV
  rw [List.getLast?_concat]
theorem one_put {q : Qt} (hk : q.ok) {L : List PB} (hI : Inv q L) {o : O} (h : (oneP q L o).2 = 0) (h3 : o.k ≠ 3) : ∃ K, getP (oneP q L o).1 o.s = (o.s, K, true) ∧ lastV K = (⟨(lastV (getP L o.s).2.1).1.n + 1, o.v, o.t⟩, true) ∧ (getP L o.s).2.2 = (lastV (getP L o.s).2.1).2 ∧ (lastV (getP L o.s).2.1).1.n ≤ 1073741823 ∧ (o.k = 2 → (K.length : Int) = 1) ∧ (o.k ≠ 2 → (K.length : Int) = min (((getP L o.s).2.1.length : Int) + 1) q.e) := by
  obtain ⟨b0, e0⟩ := one_new h h3
  have hf : (getP L o.s).2.2 = (lastV (getP L o.s).2.1).2 := by
    unfold getP
    cases hl : lk L o.s with
    | none => rfl
    | some l =>
      have hne := (hI.fine _ (lk_some hl)).2
      simp only [] at hne ⊢
      unfold lastV
      cases hg : l.getLast? with
      | none => exact absurd (List.getLast?_eq_none_iff.1 hg) hne
      | some x => rfl
  refine ⟨(newP q L o).k, by unfold getP; rw [e0], ?_⟩
  rw [hf]
  rw [getP_l]
  unfold newP at b0 ⊢
  obtain ⟨k1, k2, k3⟩ := addP_k b0
  generalize (lk L o.s).getD [] = l at *
  rw [k1]
  rw [noOf_last] at k2 ⊢
  refine ⟨?_, rfl, by omega, fun h2 => ?_, fun h2 => ?_⟩
  · rw [lastV_snoc]
  · rw [if_pos h2]
    simp only [List.length_append, List.length_drop, List.length_singleton]
    omega
  · rw [if_neg h2]
    simp only [List.length_append, List.length_drop, List.length_singleton]
    have := hk.2.2.2.2.1.1
    omega
/-- the secrets of other names, out of the first few -/
def fl (s : ByteArray) (l : List E) (j : Nat) : List E := (l.take j).filter fun x => decide (x.s ≠ s)
theorem fl_yes {s : ByteArray} {l : List E} {j : Nat} (hj : j < l.length) (h : l[j].s = s) : fl s l (j + 1) = fl s l j := by
  unfold fl
  rw [List.take_succ_eq_append_getElem hj, List.filter_append]
  simp [h]
theorem fl_no {s : ByteArray} {l : List E} {j : Nat} (hj : j < l.length) (h : l[j].s ≠ s) : fl s l (j + 1) = fl s l j ++ [l[j]] := by
  unfold fl
  rw [List.take_succ_eq_append_getElem hj, List.filter_append]
  simp [h]
theorem fl_le (s : ByteArray) (l : List E) (j : Nat) : (fl s l j).length ≤ j := Nat.le_trans (List.length_filter_le _ _) (by rw [List.length_take]; omega)
theorem fl_all (s : ByteArray) (l : List E) : (fl s l l.length).map pe = del (l.map pe) s := by
  unfold fl del
  rw [List.take_length, List.filter_map]
  rfl
theorem fl_mem {s : ByteArray} {l : List E} {j : Nat} {x : E} (h : x ∈ fl s l j) : x ∈ l := List.mem_of_mem_take (List.mem_filter.1 h).1
theorem ecells {w : World} {g : Nat} {s : ByteArray} {u : Value} (h : Blk w g 79 #[.string s, u]) : w.cell? ⟨g, 0, none⟩ = some (.string s) ∧ w.cell? ⟨g, 1, none⟩ = some u := ⟨h.cell 0, h.cell 1⟩
def SwHead (W : World) (B : Nat) (l : List E) (s : ByteArray) (i u : Value) (wr : World) : Prop := ∃ j : Nat, j ≤ l.length ∧ i = .int .i64 (j : Int) ∧ Below B W wr ∧ wr.ownsRow 0 79 2 u (fl s l j).length (cellsE (fl s l j)) ∧ ∀ g, u.ownBlock = some g → B ≤ g
theorem sw_es {w : World} {v : Value} {l : List E} (h : w.ownsRow 0 79 2 v l.length (cellsE l)) (hl : l.length * 40 ≤ 140737488355328) (hx : ∀ x ∈ l, Vs w w.heap.size x.l x.A x.c ∧ x.s.size ≤ maxLen) : ∃ A c, v = .slice A l.length c ∧ Es w w.heap.size l A c := by
  obtain ⟨A, c, e, hc, hn, hr⟩ := row_rdF h
  exact ⟨A, c, e, hc, hl, hn, hr.rd, hx⟩

end Go.Proofs.Ytjlglfjikfpboaa.books
