/- What an append makes while the power is on; how many are free (pure). -/
import Derived.Test.YthmamlghmagmkaaSgI


namespace Go.Proofs.Ythmamlghmagmkaa.segs
set_option linter.unusedVariables false
set_option linter.unusedSimpArgs false
open Go.RowKit Go.Shelf Go.Proofs.Ythmamlghmagmkaa.base Go.Proofs.Ythmamlghmagmkaa.trees Go.Proofs.Ythmamlghmagmkaa.powers Go.Proofs.Ythmamlghmagmkaa.mediums Go.Lib

theorem empty_of {b : ByteArray} (h : b.size = 0) : b = ⟨#[]⟩ := by
  apply ByteArray.ext
  exact Array.eq_empty_of_size_eq_zero h
theorem isEmpty_no {s : ByteArray} (h : ¬ s.size = 0) : s.toList.isEmpty = false := by
  rw [ByteArray.toList_eq]
  cases hl : s.data.toList with
  | nil => exact absurd (by rw [show s.size = s.data.toList.length from by simp, hl]; rfl) h
  | cons a l => rfl
theorem some_ne {s : ByteArray} (h : ¬ s.size = 0) : ¬ s = ⟨#[]⟩ := fun e => h (by rw [e]; rfl)
theorem thoseTo_mono (ac : List T3) (k : Int) (m : Nat) : (thoseTo ac k (m + 1)).length = (thoseTo ac k m).length + (if (at3 ac m).a = k then 1 else 0) := by
  by_cases h : (at3 ac m).a = k
  · rw [thoseTo_yes h, if_pos h, List.length_append]; rfl
  · rw [thoseTo_no h, if_neg h]; rfl
/-- each is free, sealed or open, and just one is open -/
theorem parted {s : LS} (h : OkL s) : (those s.ac 1).length + (those s.ac 2).length + 1 = s.ac.length := by
  have hk : ∀ m, m ≤ s.ac.length → (thoseTo s.ac 1 m).length + (thoseTo s.ac 2 m).length + (if s.o < m then 1 else 0) = m := by
    intro m
    induction m with
    | zero => intro _; rfl
    | succ m ih =>
      intro hm
      have := ih (by omega)
      have hk := h.kind m (by omega)
      rw [thoseTo_mono, thoseTo_mono]
      rcases hk.1 with e | e | e
      · have : s.o ≠ m := fun e2 => by have := hk.2.2 e2.symm; omega
        rw [if_pos e, if_neg (by omega)]
        by_cases h2 : s.o < m
        · rw [if_pos h2] at ih; rw [if_pos (by omega)]; have := ih (by omega); omega
        · rw [if_neg h2] at ih; rw [if_neg (by omega)]; have := ih (by omega); omega
      · have : s.o ≠ m := fun e2 => by have := hk.2.2 e2.symm; omega
        rw [if_neg (by omega), if_pos e]
        by_cases h2 : s.o < m
        · rw [if_pos h2] at ih; rw [if_pos (by omega)]; have := ih (by omega); omega
        · rw [if_neg h2] at ih; rw [if_neg (by omega)]; have := ih (by omega); omega
      · have e3 := hk.2.1 e
        rw [if_neg (by omega), if_neg (by omega), if_pos (by omega)]
        rw [if_neg (by omega)] at ih
        have := ih (by omega)
        omega
  have := hk s.ac.length (Nat.le_refl _)
  rw [if_pos h.o, thoseTo_all, thoseTo_all] at this
  exact this
/-- one of a kind is one no more -/
theorem one_less {ac ac' : List T3} {k : Int} {j : Nat} (hl : ac'.length = ac.length) (hj : j < ac.length) (h1 : (at3 ac j).a = k) (h2 : (at3 ac' j).a ≠ k) (h3 : ∀ i, i < ac.length → i ≠ j → ((at3 ac' i).a = k ↔ (at3 ac i).a = k)) : (those ac' k).length + 1 = (those ac k).length := by
  have hk : ∀ m, m ≤ ac.length → (thoseTo ac' k m).length + (if j < m then 1 else 0) = (thoseTo ac k m).length := by
    intro m
    induction m with
    | zero => intro _; rfl
    | succ m ih =>
      intro hm
      have := ih (by omega)
      rw [thoseTo_mono, thoseTo_mono]
      by_cases e : m = j
      · subst e
        rw [if_neg h2, if_pos h1, if_pos (by omega)]
        rw [if_neg (by omega)] at this
        omega
      · have := h3 m (by omega) e
        by_cases e2 : (at3 ac m).a = k
        · rw [if_pos e2, if_pos (this.2 e2)]
          by_cases e3 : j < m
          · rw [if_pos (by omega)]; rw [if_pos e3] at ih; have := ih (by omega); omega
          · rw [if_neg (by omega)]; rw [if_neg e3] at ih; have := ih (by omega); omega
        · rw [if_neg e2, if_neg (fun e4 => e2 (this.1 e4))]
          by_cases e3 : j < m
          · rw [if_pos (by omega)]; rw [if_pos e3] at ih; have := ih (by omega); omega
          · rw [if_neg (by omega)]; rw [if_neg e3] at ih; have := ih (by omega); omega
  have := hk ac.length (Nat.le_refl _)
  rw [if_pos hj, thoseTo_all] at this
  rw [← thoseTo_all ac', hl]
  exact this
theorem same_kinds {ac ac' : List T3} {k : Int} (hl : ac'.length = ac.length) (h : ∀ i, i < ac.length → ((at3 ac' i).a = k ↔ (at3 ac i).a = k)) : those ac' k = those ac k := by
  rw [← thoseTo_all, ← thoseTo_all, hl]
  exact thoseTo_congr h
/-- no more is used than is written -/
def InvM (m : MS) (s : LS) : Prop := s.ac.length = m.segs.length ∧ (∀ i, (m.at_ i).size ≤ m.size) ∧ ∀ i, i < s.ac.length → (at3 s.ac i).b ≤ ((m.at_ i).size : Int)
theorem putM_at {m : MS} {j : Nat} (hj : j < m.segs.length) (o : Nat) (b : ByteArray) (i : Nat) : (putM m j o b).at_ i = if i = j then (m.at_ j).extract 0 o ++ b else m.at_ i := by
  unfold putM MS.at_
  by_cases h : i = j
  · subst h; simp only [List.getElem?_set_self hj, if_pos rfl]; rfl
  · simp only [List.getElem?_set_ne (fun e => h e.symm), if_neg h]
/-- what an append makes -/
structure ApOn (m : MS) (s : LS) (b : ByteArray) (j : Nat) (o : Nat) : Prop where
  E : apE m s (-1) b = 0
  V : apV m s (-1) b = ⟨(j : Int), (o : Int), (b.size : Int)⟩
  M : apM m s (-1) b = putM m j o b
  S : apS m s (-1) b = rollU s j b.size
  L : apL m s (-1) b = -1
  n : 1 ≤ b.size ∧ b.size ≤ m.size
  jlt : j < s.ac.length
  use : (at3 s.ac j).b = (o : Int)
  fit : o + b.size ≤ m.size
  w : o ≤ (m.at_ j).size
  where_ : (j = s.o) ∨ (m.size < ((at3 s.ac s.o).b + (b.size : Int)) ∧ first s.ac 1 = some j ∧ o = 0)
  inv : InvM (putM m j o b) (rollU s j b.size)
theorem ap_on {m : MS} {s : LS} (h : OkL s) (hi : InvM m s) (b : ByteArray) :
    (roomE m.size s b.size ≠ 0 ∧ apE m s (-1) b = roomE m.size s b.size ∧ apV m s (-1) b = zT ∧ apM m s (-1) b = m ∧ apS m s (-1) b = s ∧ apL m s (-1) b = -1) ∨ (roomE m.size s b.size = 0 ∧ ∃ j o, ApOn m s b j o) := by
  by_cases hE : roomE m.size s b.size = 0
  · refine .inr ⟨hE, apJ m s b, (apU m s b).toNat, ?_⟩
    obtain ⟨n1, n2, hj, hfit, hwh⟩ := room_facts h hE
    have hu := h.used _ hj
    have e1 : apU m s b = (at3 s.ac (roomJ m.size s b.size)).b := rfl
    have e2 : apJ m s b = roomJ m.size s b.size := rfl
    obtain ⟨o, ho⟩ := Int.eq_ofNat_of_zero_le (show 0 ≤ apU m s b by omega)
    have hwr := hi.2.2 _ hj
    rw [← e2] at hj hwr hfit e1 hwh
    have hr : refE m (apJ m s b) (apU m s b) b = 0 := by
      unfold refE
      have hjs : apJ m s b < m.segs.length := by rw [← hi.1]; exact hj
      rw [if_pos ⟨by omega, by omega⟩, Int.toNat_natCast, if_neg (by omega), if_neg (by omega)]
    have hw : wrE m (-1) (apJ m s b) (apU m s b) b = 0 := by unfold wrE; rw [if_pos hr]; rfl
    obtain ⟨p1, p2, p3, p4, p5, _⟩ := ap_yes (W := 0) hE hw
    have hM : apM m s (-1) b = putM m (apJ m s b) (apU m s b).toNat b := by rw [p3]; unfold mW; rw [if_pos ⟨hr, by decide⟩, Int.toNat_natCast]
    have hL : apL m s (-1) b = -1 := by rw [p5]; unfold lW; rw [if_pos hr]; rfl
    rw [ho, Int.toNat_natCast] at hM ⊢
    have hjs : apJ m s b < m.segs.length := by rw [← hi.1]; exact hj
    have hex : ((m.at_ (apJ m s b)).extract 0 o).size = o := size_take _ _ (by omega)
    refine ⟨p1, by rw [p2, ho], hM, p4, hL, ⟨n1, n2⟩, hj, by omega, by omega, by omega, ?_, ?_⟩
    · rcases hwh with e | ⟨e3, e4, e5⟩
      · exact .inl e
      · exact .inr ⟨by omega, e4, by omega⟩
    · refine ⟨by rw [rollU_len, putM_len]; exact hi.1, fun i => ?_, fun i hii => ?_⟩
      · rw [putM_at hjs]
        show _ ≤ m.size
        split
        · rw [size_app, hex]; omega
        · exact hi.2.1 i
      · rw [rollU_len] at hii
        rw [rollU_at h hj, putM_at hjs]
        dsimp only
        by_cases e : apJ m s b = i
        · subst e
          rw [if_pos rfl, if_pos rfl, size_app, hex]; omega
        · rw [if_neg e, if_neg (fun e2 => e e2.symm)]; exact hi.2.2 i hii
  · obtain ⟨p1, p2, p3, p4, p5, _⟩ := ap_no (L := -1) (W := 0) hE
    exact .inl ⟨hE, p1, p2, p3, p4, p5⟩
theorem ApOn.past {m : MS} {s : LS} {b : ByteArray} {j o : Nat} (_ : ApOn m s b j o) : (putM m j o b).past.length = m.past.length + 1 := putM_past _ _ _ _
/-- one segment fewer is free, if it rolled -/
theorem ApOn.free {m : MS} {s : LS} {b : ByteArray} {j o : Nat} (h : ApOn m s b j o) (hs : OkL s) : (j = s.o ∧ those (rollU s j b.size).ac 1 = those s.ac 1) ∨ (j ≠ s.o ∧ (those (rollU s j b.size).ac 1).length + 1 = (those s.ac 1).length) := by
  have hko := (hs.kind s.o hs.o).2.2 rfl
  by_cases hj : j = s.o
  · refine .inl ⟨hj, same_kinds (rollU_len _ _ _) fun i hi => ?_⟩
    rw [rollU_at hs h.jlt]
    dsimp only
    by_cases e : j = i
    · rw [if_pos e]; subst e; rw [hj, hko]
    · rw [if_neg e, if_neg (by omega)]
  · refine .inr ⟨hj, one_less (j := j) (rollU_len _ _ _) h.jlt ?_ ?_ fun i hi hne => ?_⟩
    · rcases h.where_ with e | ⟨_, e, _⟩
      · exact absurd e hj
      · exact (first_some e).2.1
    · rw [rollU_at hs h.jlt]; dsimp only; rw [if_pos rfl]; decide
    · rw [rollU_at hs h.jlt]
      dsimp only
      rw [if_neg (fun e => hne e.symm)]
      by_cases e : s.o = i
      · rw [if_pos e]; subst e; rw [hko]; decide
      · rw [if_neg e]
theorem inv_new (n size : Nat) (hn : 1 ≤ n) : InvM (newM n size) (newL n) := by
  refine ⟨by rw [newL_len]; simp [newM], fun i => by rw [newM_at]; exact Nat.zero_le _, fun i hi => ?_⟩
  rw [newL_len] at hi
  rw [newL_at hn hi]
  split <;> simp
end Go.Proofs.Ythmamlghmagmkaa.segs
