/- Single calls, in pure words; calls that commute. -/
import Derived.Test.YtjlglfjikfpboaaBkQ


namespace Go.Proofs.Ytjlglfjikfpboaa.books
set_option linter.unusedVariables false
set_option linter.unusedSimpArgs false
open Go.RowKit Go.Proofs.Ytjlglfjikfpboaa.base Go.Proofs.Ytjlglfjikfpboaa.quotas Go.Proofs.Ytjlglfjikfpboaa.vers Go.Proofs.Ytjlglfjikfpboaa.nodes Go.Proofs.Ytjlglfjikfpboaa.trees Go.Proofs.Ytjlglfjikfpboaa.texts

theorem behind_one {q : Qt} (hk : q.ok) (L : List PB) (o : O) : behindP q L [o] = if (oneP q L o).2 ≠ 0 then (L, (oneP q L o).2, 0) else ((oneP q L o).1, 0, 0) := by
  have := hk.2.2.2.2.2.1.1
  unfold behindP
  rw [if_neg (by simp; omega), rowP]
  rfl
theorem playP_one {q : Qt} (hk : q.ok) (b : Bk) (o : O) : playP q b [o] = if (oneP q b.L o).2 ≠ 0 then (b, (oneP q b.L o).2, 0) else (⟨(oneP q b.L o).1, wereP b.P [o]⟩, 0, 0) := by
  unfold playP
  rw [behind_one hk]
  by_cases h : (oneP q b.L o).2 = 0
  · simp [h]
  · simp [h]
theorem wereP_one (P : List (List UInt8)) (o : O) : wereP P [o] = if o.k ≠ 3 then insD (bn o.v) P false else P := rfl
theorem oneP_bad {q : Qt} {L : List PB} {o : O} (h : (oneP q L o).2 ≠ 0) : (oneP q L o).1 = L := by
  unfold oneP at h ⊢
  split
  · rfl
  · rename_i h1
    rw [if_neg h1] at h
    split
    · rename_i h2
      rw [if_pos h2] at h
      split
      · rfl
      · rename_i h3
        rw [h3] at h
        exact absurd rfl h
    · rename_i h2
      rw [if_neg h2] at h
      split
      · rfl
      · rename_i h3
        rw [if_neg h3] at h
        split
        · rfl
        · rename_i h4
          rw [if_neg h4] at h
          exact absurd rfl h
/-- what a call that is played makes of its secret -/
def effP (q : Qt) (o : O) (l : Option (List V)) : Option (List V) := if o.k = 3 then none else some (addP q.a q.b q.c q.d q.e q.f q.h o.s (l.getD []) o.v o.t (if o.k = 2 then 1 else q.e)).k
theorem oneP_eff {q : Qt} {L : List PB} {o : O} (h : (oneP q L o).2 = 0) (u : ByteArray) : lk (oneP q L o).1 u = if u = o.s then effP q o (lk L o.s) else lk L u := by
  rw [oneP_eq] at h ⊢
  by_cases h1 : rightO q o ≠ 0
  · rw [if_pos h1] at h; exact absurd h h1
  · rw [if_neg h1] at h ⊢
    by_cases h2 : o.k = 3
    · rw [if_pos h2] at h ⊢
      unfold takeP at h ⊢
      cases hl : lk L o.s with
      | none => rw [hl] at h; cases h
      | some l =>
        show lk (del L o.s) u = _
        by_cases hu : u = o.s
        · subst hu
          rw [if_pos rfl, lk_del_same]
          unfold effP
          rw [if_pos h2]
        · rw [if_neg hu, lk_del_other hu]
    · rw [if_neg h2] at h ⊢
      unfold renewP at h ⊢
      by_cases h3 : lk L o.s = none ∧ (L.length : Int) = q.a
      · rw [if_pos h3] at h; cases h
      · rw [if_neg h3] at h ⊢
        by_cases h4 : (newP q L o).bad ≠ 0
        · rw [if_pos h4] at h; exact absurd h h4
        · rw [if_neg h4]
          show lk (put L (o.s, (newP q L o).k)) u = _
          by_cases hu : u = o.s
          · subst hu
            rw [if_pos rfl]
            have := lk_put_same L (o.s, (newP q L o).k)
            simp only [] at this
            rw [this]
            unfold effP newP
            rw [if_neg h2]
          · rw [if_neg hu, lk_put_other (x := (o.s, (newP q L o).k)) hu]
theorem one_commute {q : Qt} (hk : q.ok) {L : List PB} (hI : Inv q L) {x y : O} (hxy : x.s ≠ y.s) (a : (oneP q L x).2 = 0) (b : (oneP q (oneP q L x).1 y).2 = 0) (c : (oneP q L y).2 = 0) (d : (oneP q (oneP q L y).1 x).2 = 0) :
    (oneP q (oneP q L x).1 y).1 = (oneP q (oneP q L y).1 x).1 := by
  refine up_ext ((hI.one hk x).one hk y).up ((hI.one hk y).one hk x).up fun s => ?_
  rw [oneP_eff b, oneP_eff d, oneP_eff a, oneP_eff c, oneP_eff a, oneP_eff c, if_neg hxy.symm, if_neg hxy]
  by_cases h1 : s = y.s
  · rw [if_pos h1, if_neg (fun e => hxy (by rw [← e, h1])), if_pos h1]
  · rw [if_neg h1]
    by_cases h2 : s = x.s
    · rw [if_pos h2, if_pos h2]
    · rw [if_neg h2, if_neg h2, if_neg h1]
theorem insD_commute (P : List (List UInt8)) (hP : P.Pairwise (· < ·)) (s t : List UInt8) : insD s (insD t P false) false = insD t (insD s P false) false := by
  obtain ⟨a1, a2⟩ := insD_props t P hP
  obtain ⟨b1, b2⟩ := insD_props s P hP
  obtain ⟨c1, c2⟩ := insD_props s _ a1
  obtain ⟨d1, d2⟩ := insD_props t _ b1
  refine rising_eq _ _ c1 d1 fun x => ?_
  rw [c2, d2, a2, b2]
  constructor <;> (rintro (h | h | h) <;> simp [h])
theorem were_commute (P : List (List UInt8)) (hP : P.Pairwise (· < ·)) (x y : O) : wereP (wereP P [x]) [y] = wereP (wereP P [y]) [x] := by
  simp only [wereP_one]
  by_cases hx : x.k ≠ 3
  · by_cases hy : y.k ≠ 3
    · simp only [if_pos hx, if_pos hy]
      exact insD_commute P hP _ _
    · simp only [if_pos hx, if_neg hy]
  · simp only [if_neg hx]
theorem play_commute {q : Qt} (hk : q.ok) {b : Bk} {n : Nat} (hI : BInv q n b) {x y : O} (hxy : x.s ≠ y.s) (ha : (playP q b [x]).2.1 = 0) (hb : (playP q (playP q b [x]).1 [y]).2.1 = 0) (hc : (playP q b [y]).2.1 = 0) (hd : (playP q (playP q b [y]).1 [x]).2.1 = 0) :
    (playP q (playP q b [x]).1 [y]).1 = (playP q (playP q b [y]).1 [x]).1 := by
  have e : ∀ (b : Bk) (o : O), (playP q b [o]).2.1 = 0 → (oneP q b.L o).2 = 0 ∧ (playP q b [o]).1 = ⟨(oneP q b.L o).1, wereP b.P [o]⟩ := fun b o h => by
    rw [playP_one hk] at h ⊢
    by_cases h1 : (oneP q b.L o).2 = 0
    · exact ⟨h1, by rw [if_neg (fun h2 => h2 h1)]⟩
    · rw [if_pos h1] at h; exact absurd h h1
  obtain ⟨a1, a2⟩ := e _ _ ha
  obtain ⟨c1, c2⟩ := e _ _ hc
  rw [a2] at hb ⊢
  rw [c2] at hd ⊢
  obtain ⟨b1, b2⟩ := e _ _ hb
  obtain ⟨d1, d2⟩ := e _ _ hd
  rw [b2, d2]
  simp only [] at b1 d1 ⊢
  rw [one_commute hk hI.inv hxy a1 b1 c1 d1, were_commute b.P hI.put]
end Go.Proofs.Ytjlglfjikfpboaa.books
