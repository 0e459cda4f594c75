/- What an append makes while the power is on; how many are free (pure). -/
import Derived.Test.YtoenkkbcpafanaaA15
import Derived.Test.YtoenkkbcpafanaaRows
import Derived.Test.YtoenkkbcpafanaaA00
import Derived.Test.YtoenkkbcpafanaaA06
import Derived.Laws.StructEq


namespace Go.Proofs.Ytoenkkbcpafanaa.segs
set_option linter.unusedVariables false
set_option linter.unusedSimpArgs false
open Go.RowKit Go.Shelf Go.Proofs.Ytoenkkbcpafanaa.base Go.Proofs.Ytoenkkbcpafanaa.trees Go.Proofs.Ytoenkkbcpafanaa.powers Go.Proofs.Ytoenkkbcpafanaa.mediums Go.Lib

theorem empty_of {b : ByteArray} (h : b.size = 0) : b = ⟨#[]⟩ := by
  apply ByteArray.ext
  exact Array.eq_empty_of_size_eq_zero h
theorem isEmpty_no {s : ByteArray} (h : ¬ s.size = 0) : s.toList.isEmpty = false := by
  rw [ByteArray.toList_eq]
  cases hl : s.data.toList with
  | nil => exact absurd (by rw [show s.size = s.data.toList.length from by simp, hl]; rfl) h
  | cons a l => rfl
theorem some_ne {s : ByteArray} (h : ¬ s.size = 0) : ¬ s = ⟨#[]⟩ := fun e => h (by rw [e]; rfl)
theorem thoseTo_mono (ac : List T3) (k : Int) (m : Nat) : (thoseTo ac k (m + 1)).length = (thoseTo ac k m).length + (if (at3 ac m).a = k then 1 else 0) := by
  by_cases h : (at3 ac m).a = k
  · rw [thoseTo_yes h, if_pos h, List.length_append]; rfl
  · rw [thoseTo_no h, if_neg h]; rfl
/-- each is free, sealed or open, and just one is open -/
theorem parted {s : LS} (h : OkL s) : (those s.ac 1).length + (those s.ac 2).length + 1 = s.ac.length := by
  have hk : ∀ m, m ≤ s.ac.length → (thoseTo s.ac 1 m).length + (thoseTo s.ac 2 m).length + (if s.o < m then 1 else 0) = m := by
    intro m
    induction m with
    | zero => intro _; rfl
    | succ m ih =>
      intro hm
      have := ih (by omega)
      have hk := h.kind m (by omega)
      rw [thoseTo_mono, thoseTo_mono]
      rcases hk.1 with e | e | e
      · have : s.o ≠ m := fun e2 => by have := hk.2.2 e2.symm; omega
        rw [if_pos e, if_neg (by omega)]
        by_cases h2 : s.o < m
        · rw [if_pos h2] at ih; rw [if_pos (by omega)]; have := ih (by omega); omega
        · rw [if_neg h2] at ih; rw [if_neg (by omega)]; have := ih (by omega); omega
      · have : s.o ≠ m := fun e2 => by have := hk.2.2 e2.symm; omega
        rw [if_neg (by omega), if_pos e]
        by_cases h2 : s.o < m
        · rw [if_pos h2] at ih; rw [if_pos (by omega)]; have := ih (by omega); omega
        · rw [if_neg h2] at ih; rw [if_neg (by omega)]; have := ih (by omega); omega
      · have e3 := hk.2.1 e
        rw [if_neg (by omega), if_neg (by omega), if_pos (by omega)]
        rw [if_neg (by omega)] at ih
        have := ih (by omega)
        omega
  have := hk s.ac.length (Nat.le_refl _)
  rw [if_pos h.o, thoseTo_all, thoseTo_all] at this
  exact this
/-- one of a kind is one no more -/
theorem one_less {ac ac' : List T3} {k : Int} {j : Nat} (hl : ac'.length = ac.length) (hj : j < ac.length) (h1 : (at3 ac j).a = k) (h2 : (at3 ac' j).a ≠ k) (h3 : ∀ i, i < ac.length → i ≠ j → ((at3 ac' i).a = k ↔ (at3 ac i).a = k)) : (those ac' k).length + 1 = (those ac k).length := by
  have hk : ∀ m, m ≤ ac.length → (thoseTo ac' k m).length + (if j < m then 1 else 0) = (thoseTo ac k m).length := by
    intro m
    induction m with
    | zero => intro _; rfl
    | succ m ih =>
      intro hm
      have := ih (by omega)
      rw [thoseTo_mono, thoseTo_mono]
      by_cases e : m = j
      · subst e
        rw [if_neg h2, if_pos h1, if_pos (by omega)]
        rw [if_neg (by omega)] at this
        omega
      · have := h3 m (by omega) e
        by_cases e2 : (at3 ac m).a = k
        · rw [if_pos e2, if_pos (this.2 e2)]
          by_cases e3 : j < m
          · rw [if_pos (by omega)]; rw [if_pos e3] at ih; have := ih (by omega); omega
          · rw [if_neg (by omega)]; rw [if_neg e3] at ih; have := ih (by omega); omega
        · rw [if_neg e2, if_neg (fun e4 => e2 (this.1 e4))]
          by_cases e3 : j < m
          · rw [if_pos (by omega)]; rw [if_pos e3] at ih; have := ih (by omega); omega
          · rw [if_neg (by omega)]; rw [if_neg e3] at ih; have := ih (by omega); omega
  have := hk ac.length (Nat.le_refl _)
  rw [if_pos hj, thoseTo_all] at this
  rw [← thoseTo_all ac', hl]
  exact this
theorem same_kinds {ac ac' : List T3} {k : Int} (hl : ac'.length = ac.length) (h : ∀ i, i < ac.length → ((at3 ac' i).a = k ↔ (at3 ac i).a = k)) : those ac' k = those ac k := by
  rw [← thoseTo_all, ← thoseTo_all, hl]
  exact thoseTo_congr h
/-- no more is used than is written -/
def InvM (m : MS) (s : LS) : Prop := s.ac.length = m.segs.length ∧ (∀ i, (m.at_ i).size ≤ m.size) ∧ ∀ i, i < s.ac.length → (at3 s.ac i).b ≤ ((m.at_ i).size : Int)
theorem putM_at {m : MS} {j : Nat} (hj : j < m.segs.length) (o : Nat) (b : ByteArray) (i : Nat) : (putM m j o b).at_ i = if i = j then (m.at_ j).extract 0 o ++ b else m.at_ i := by
  unfold putM MS.at_
  by_cases h : i = j
  · subst h; simp only [List.getElem?_set_self hj, if_pos rfl]; rfl
  · simp only [List.getElem?_set_ne (fun e => h e.symm), if_neg h]
/-- what an append makes -/
structure ApOn (m : MS) (s : LS) (b : ByteArray) (j : Nat) (o : Nat) : Prop where
  E : apE m s (-1) b = 0
  V : apV m s (-1) b = ⟨(j : Int), (o : Int), (b.size : Int)⟩
  M : apM m s (-1) b = putM m j o b
  S : apS m s (-1) b = rollU s j b.size
  L : apL m s (-1) b = -1
  n : 1 ≤ b.size ∧ b.size ≤ m.size
  jlt : j < s.ac.length
  use : (at3 s.ac j).b = (o : Int)
  fit : o + b.size ≤ m.size
  w : o ≤ (m.at_ j).size
  where_ : (j = s.o) ∨ (m.size < ((at3 s.ac s.o).b + (b.size : Int)) ∧ first s.ac 1 = some j ∧ o = 0)
  inv : InvM (putM m j o b) (rollU s j b.size)
theorem ap_on {m : MS} {s : LS} (h : OkL s) (hi : InvM m s) (b : ByteArray) :
    (roomE m.size s b.size ≠ 0 ∧ apE m s (-1) b = roomE m.size s b.size ∧ apV m s (-1) b = zT ∧ apM m s (-1) b = m ∧ apS m s (-1) b = s ∧ apL m s (-1) b = -1) ∨ (roomE m.size s b.size = 0 ∧ ∃ j o, ApOn m s b j o) := by
  by_cases hE : roomE m.size s b.size = 0
  · refine .inr ⟨hE, apJ m s b, (apU m s b).toNat, ?_⟩
    obtain ⟨n1, n2, hj, hfit, hwh⟩ := room_facts h hE
    have hu := h.used _ hj
    have e1 : apU m s b = (at3 s.ac (roomJ m.size s b.size)).b := rfl
    have e2 : apJ m s b = roomJ m.size s b.size := rfl
    obtain ⟨o, ho⟩ := Int.eq_ofNat_of_zero_le (show 0 ≤ apU m s b by omega)
    have hwr := hi.2.2 _ hj
    rw [← e2] at hj hwr hfit e1 hwh
    have hr : refE m (apJ m s b) (apU m s b) b = 0 := by
      unfold refE
      have hjs : apJ m s b < m.segs.length := by rw [← hi.1]; exact hj
      rw [if_pos ⟨by omega, by omega⟩, Int.toNat_natCast, if_neg (by omega), if_neg (by omega)]
    have hw : wrE m (-1) (apJ m s b) (apU m s b) b = 0 := by unfold wrE; rw [if_pos hr]; rfl
    obtain ⟨p1, p2, p3, p4, p5, _⟩ := ap_yes (W := 0) hE hw
    have hM : apM m s (-1) b = putM m (apJ m s b) (apU m s b).toNat b := by rw [p3]; unfold mW; rw [if_pos ⟨hr, by decide⟩, Int.toNat_natCast]
    have hL : apL m s (-1) b = -1 := by rw [p5]; unfold lW; rw [if_pos hr]; rfl
    rw [ho, Int.toNat_natCast] at hM ⊢
    have hjs : apJ m s b < m.segs.length := by rw [← hi.1]; exact hj
    have hex : ((m.at_ (apJ m s b)).extract 0 o).size = o := size_take _ _ (by omega)
    refine ⟨p1, by rw [p2, ho], hM, p4, hL, ⟨n1, n2⟩, hj, by omega, by omega, by omega, ?_, ?_⟩
    · rcases hwh with e | ⟨e3, e4, e5⟩
      · exact .inl e
      · exact .inr ⟨by omega, e4, by omega⟩
    · refine ⟨by rw [rollU_len, putM_len]; exact hi.1, fun i => ?_, fun i hii => ?_⟩
      · rw [putM_at hjs]
        show _ ≤ m.size
        split
        · rw [size_app, hex]; omega
        · exact hi.2.1 i
      · rw [rollU_len] at hii
        rw [rollU_at h hj, putM_at hjs]
        dsimp only
        by_cases e : apJ m s b = i
        · subst e
          rw [if_pos rfl, if_pos rfl, size_app, hex]; omega
        · rw [if_neg e, if_neg (fun e2 => e e2.symm)]; exact hi.2.2 i hii
  · obtain ⟨p1, p2, p3, p4, p5, _⟩ := ap_no (L := -1) (W := 0) hE
    exact .inl ⟨hE, p1, p2, p3, p4, p5⟩
theorem ApOn.past {m : MS} {s : LS} {b : ByteArray} {j o : Nat} (_ : ApOn m s b j o) : (putM m j o b).past.length = m.past.length + 1 := putM_past _ _ _ _
/-- one segment fewer is free, if it rolled -/
theorem ApOn.free {m : MS} {s : LS} {b : ByteArray} {j o : Nat} (h : ApOn m s b j o) (hs : OkL s) : (j = s.o ∧ those (rollU s j b.size).ac 1 = those s.ac 1) ∨ (j ≠ s.o ∧ (those (rollU s j b.size).ac 1).length + 1 = (those s.ac 1).length) := by
  have hko := (hs.kind s.o hs.o).2.2 rfl
  by_cases hj : j = s.o
  · refine .inl ⟨hj, same_kinds (rollU_len _ _ _) fun i hi => ?_⟩
    rw [rollU_at hs h.jlt]
    dsimp only
    by_cases e : j = i
    · rw [if_pos e]; subst e; rw [hj, hko]
    · rw [if_neg e, if_neg (by omega)]
  · refine .inr ⟨hj, one_less (j := j) (rollU_len _ _ _) h.jlt ?_ ?_ fun i hi hne => ?_⟩
    · rcases h.where_ with e | ⟨_, e, _⟩
      · exact absurd e hj
      · exact (first_some e).2.1
    · rw [rollU_at hs h.jlt]; dsimp only; rw [if_pos rfl]; decide
    · rw [rollU_at hs h.jlt]
      dsimp only
      rw [if_neg (fun e => hne e.symm)]
      by_cases e : s.o = i
      · rw [if_pos e]; subst e; rw [hko]; decide
      · rw [if_neg e]
theorem inv_new (n size : Nat) (hn : 1 ≤ n) : InvM (newM n size) (newL n) := by
  refine ⟨by rw [newL_len]; simp [newM], fun i => by rw [newM_at]; exact Nat.zero_le _, fun i hi => ?_⟩
  rw [newL_len] at hi
  rw [newL_at hn hi]
  split <;> simp
end Go.Proofs.Ytoenkkbcpafanaa.segs

/- SegmentRoom. -/

namespace Go.Proofs.Ytoenkkbcpafanaa.segs
set_option linter.unusedVariables false
set_option linter.unusedSimpArgs false
open Go.RowKit Go.Shelf Go.Proofs.Ytoenkkbcpafanaa.base Go.Proofs.Ytoenkkbcpafanaa.trees Go.Proofs.Ytoenkkbcpafanaa.powers Go.Proofs.Ytoenkkbcpafanaa.mediums Go.Lib

/-- how many segments are free -/
def fc (s : LS) : Nat := (those s.ac 1).length
/-- what holds behind some appends -/
structure RoomAt (w0 w : World) (p g lg ab c size : Nat) (past : Nat) (m : MS) (s : LS) : Prop where
  sg : ∃ S W, Sg w0.heap.size w0 w S p g lg ab c m s (-1) W
  inv : InvM m s
  size : m.size = size
  past : m.past.length ≤ past
theorem RoomAt.below {w0 w w' : World} {p g lg ab c size past : Nat} {m : MS} {s : LS} (h : RoomAt w0 w p g lg ab c size past m s) (hb : Below w.heap.size w w') : RoomAt w0 w' p g lg ab c size past m s := by
  obtain ⟨⟨S, W, h1⟩, h2, h3, h4⟩ := h
  exact ⟨⟨S, W, h1.below hb⟩, h2, h3, h4⟩
theorem RoomAt.hb {w0 w : World} {p g lg ab c size past : Nat} {m : MS} {s : LS} (h : RoomAt w0 w p g lg ab c size past m s) : Below w0.heap.size w0 w := by
  obtain ⟨⟨S, W, h1⟩, _⟩ := h
  exact h1.hb
theorem RoomAt.ok {w0 w : World} {p g lg ab c size past : Nat} {m : MS} {s : LS} (h : RoomAt w0 w p g lg ab c size past m s) : OkL s ∧ LgAt w g lg ab c s := by
  obtain ⟨⟨S, W, h1⟩, _⟩ := h
  exact ⟨h1.log.ok, h1.log⟩
/-- an append -/
theorem RoomAt.append {w0 w : World} {p g lg ab c size past : Nat} {m : MS} {s : LS} (h : RoomAt w0 w p g lg ab c size past m s) (hp : past ≤ 1000) (b : ByteArray) (hbs : b.size ≤ 9223372036854775807) :
    Calls Try.prog 87 #[.pointer (some ⟨lg, 0, none⟩), .string b] w fun e w' => e = .returned (.tuple #[(apV m s (-1) b).v, .int .i64 (apE m s (-1) b)]) ∧ RoomAt w0 w' p g lg ab c size (past + 1) (apM m s (-1) b) (apS m s (-1) b) := by
  obtain ⟨⟨S, W, h1⟩, h2, h3, h4⟩ := h
  refine (append_any h1 b hbs (by omega)).mono ?_
  rintro e w' ⟨rfl, S', T, _, _⟩
  refine ⟨rfl, ?_⟩
  rcases ap_on h1.log.ok h2 b with ⟨_, _, _, eM, eS, eL⟩ | ⟨_, j, o, A⟩
  · rw [eM, eS, eL] at T
    rw [eM, eS]
    exact ⟨⟨S', _, T⟩, h2, h3, by omega⟩
  · rw [A.M, A.S, A.L] at T
    rw [A.M, A.S]
    exact ⟨⟨S', _, T⟩, A.inv, h3, by rw [A.past]; omega⟩
/-- one fewer is free, or as many as before -/
theorem fc_app {m : MS} {s : LS} (h : OkL s) (hi : InvM m s) (b : ByteArray) : fc s ≤ fc (apS m s (-1) b) + 1 := by
  unfold fc
  rcases ap_on h hi b with ⟨_, _, _, _, eS, _⟩ | ⟨_, j, o, A⟩
  · rw [eS]; omega
  · rw [A.S]
    rcases A.free h with ⟨_, e⟩ | ⟨_, e⟩
    · rw [e]; omega
    · omega
/-- of f free ones at the beginning r are taken by k rows -/
def RoomP (q f k : Nat) (s : LS) : Prop := fc s ≤ f ∧ (fc s = f ∨ ∃ i : Nat, 1 ≤ i ∧ (at3 s.ac s.o).b ≤ (i : Int) * (q : Int) ∧ 4 * (f - fc s - 1) + i ≤ k)
theorem RoomP.start (q : Nat) (s : LS) : RoomP q (fc s) 0 s := ⟨Nat.le_refl _, .inl rfl⟩
theorem RoomP.most {q f k : Nat} {s : LS} (h : RoomP q f k s) : 4 * (f - fc s) ≤ k + 3 := by
  obtain ⟨h1, h2 | ⟨i, h2, h3, h4⟩⟩ := h <;> omega
theorem RoomP.step {q f k : Nat} {m : MS} {s : LS} (h : RoomP q f k s) (hs : OkL s) (hi : InvM m s) (hq : m.size = 4 * q) (hf : 101 < f) (hk : k ≤ 399) (b : ByteArray) (hb : 1 ≤ b.size ∧ b.size ≤ q) :
    apE m s (-1) b = 0 ∧ RoomP q f (k + 1) (apS m s (-1) b) := by
  have hm := h.most
  rcases ap_on hs hi b with ⟨hE, e1, _⟩ | ⟨_, j, o, A⟩
  · exfalso
    unfold roomE at hE
    rw [if_neg (by omega)] at hE
    split at hE
    · exact hE rfl
    · split at hE
      · rename_i h3
        rcases firstI_cases s.ac with ⟨_, e⟩ | ⟨j, e, _⟩
        · have := first_none.1 e
          unfold fc at hm
          rw [this] at hm
          simp at hm
          omega
        · omega
      · exact hE rfl
  · refine ⟨A.E, ?_⟩
    rw [A.S]
    have hfr := A.free hs
    have hob : (at3 (rollU s j b.size).ac (rollU s j b.size).o).b = (o : Int) + (b.size : Int) := by
      show (at3 (rollU s j b.size).ac j).b = _
      rw [rollU_at hs A.jlt, ← A.use]
      dsimp only
      rw [if_pos rfl]
    obtain ⟨h1, h2⟩ := h
    rcases hfr with ⟨ej, e⟩ | ⟨ej, e⟩
    · have hfe : fc (rollU s j b.size) = fc s := by unfold fc; rw [e]
      refine ⟨by omega, ?_⟩
      rcases h2 with h2 | ⟨i, h2, h3, h4⟩
      · exact .inl (by omega)
      · refine .inr ⟨i + 1, by omega, ?_, by omega⟩
        rw [hob]
        have : (at3 s.ac s.o).b = (o : Int) := by rw [← ej]; exact A.use
        rw [this] at h3
        have e2 : ((i + 1 : Nat) : Int) * (q : Int) = (i : Int) * (q : Int) + (q : Int) := by rw [Int.natCast_add, Int.add_mul]; omega
        omega
    · have hfe : fc (rollU s j b.size) + 1 = fc s := e
      refine ⟨by omega, .inr ⟨1, Nat.le_refl _, ?_, ?_⟩⟩
      · rw [hob]
        rcases A.where_ with e3 | ⟨_, _, e3⟩
        · exact absurd e3 ej
        · rw [e3]; omega
      · rcases h2 with h2 | ⟨i, h2, h3, h4⟩
        · omega
        · rcases A.where_ with e3 | ⟨e4, _, e3⟩
          · exact absurd e3 ej
          · have hi4 : 4 ≤ i := by
              rcases Nat.lt_or_ge i 4 with hlt | hge
              · exfalso
                have : (i : Int) * (q : Int) ≤ 3 * (q : Int) := Int.mul_le_mul_of_nonneg_right (by omega) (by omega)
                omega
              · exact hge
            omega

end Go.Proofs.Ytoenkkbcpafanaa.segs

/- Appends while the power may be off, and room for rows of pages: what is pure. -/

namespace Go.Proofs.Ytoenkkbcpafanaa.pags
set_option linter.unusedVariables false
set_option linter.unusedSimpArgs false
open Go.RowKit Go.Proofs.Ytoenkkbcpafanaa.base Go.Proofs.Ytoenkkbcpafanaa.trees Go.Proofs.Ytoenkkbcpafanaa.powers Go.Proofs.Ytoenkkbcpafanaa.mediums Go.Proofs.Ytoenkkbcpafanaa.segs Go.Lib

theorem ref_on {m : MS} {s : LS} (h : OkL s) (hi : InvM m s) (b : ByteArray) (hE : roomE m.size s b.size = 0) : refE m (apJ m s b) (apU m s b) b = 0 := by
  rcases ap_on h hi b with ⟨e, _⟩ | ⟨_, j, o, A⟩
  · exact absurd hE e
  · have h1 := A.E
    unfold apE wrE at h1
    rw [if_pos hE] at h1
    by_cases h2 : refE m (apJ m s b) (apU m s b) b = 0
    · exact h2
    · rw [if_neg h2] at h1; exact absurd h1 h2
/-- where there is room and the power is on -/
theorem ap_go {m : MS} {s : LS} (h : OkL s) (hi : InvM m s) (b : ByteArray) (L : Int) (hE : roomE m.size s b.size = 0) (hL : L ≠ 0) :
    apE m s L b = 0 ∧ apV m s L b = apV m s (-1) b ∧ apM m s L b = apM m s (-1) b ∧ apS m s L b = apS m s (-1) b ∧ apL m s L b = spL L := by
  have hr := ref_on h hi b hE
  have e1 : ∀ X : Int, X ≠ 0 → apE m s X b = 0 := fun X hX => by unfold apE wrE eSp; rw [if_pos hE, if_pos hr, if_neg hX]
  refine ⟨e1 L hL, ?_, ?_, ?_, ?_⟩
  · unfold apV; rw [e1 L hL, e1 (-1) (by decide)]
  · unfold apM mW; rw [if_pos hE, if_pos hE, if_pos ⟨hr, hL⟩, if_pos ⟨hr, by decide⟩]
  · unfold apS; rw [e1 L hL, e1 (-1) (by decide)]
  · unfold apL lW; rw [if_pos hE, if_pos hr]
/-- where there is room and the power is off -/
theorem ap_off {m : MS} {s : LS} (h : OkL s) (hi : InvM m s) (b : ByteArray) (hE : roomE m.size s b.size = 0) :
    apE m s 0 b = 110 ∧ apM m s 0 b = m ∧ apS m s 0 b = s ∧ apL m s 0 b = 0 := by
  have hr := ref_on h hi b hE
  have e1 : apE m s 0 b = 110 := by unfold apE wrE eSp; rw [if_pos hE, if_pos hr, if_pos rfl]
  refine ⟨e1, ?_, ?_, ?_⟩
  · unfold apM mW; rw [if_pos hE, if_neg (fun e => e.2 rfl)]
  · unfold apS; rw [e1, if_neg (by decide)]
  · unfold apL lW; rw [if_pos hE, if_pos hr]; decide
theorem room_cases {m : MS} {s : LS} {q f k : Nat} (h : RoomP q f k s) (hs : OkL s) (hq : m.size = 4 * q) (hk : k + 3 < 4 * f) (n : Nat) (hn : 1 ≤ n ∧ n ≤ q) : roomE m.size s n = 0 := by
  have hm := h.most
  unfold roomE
  rw [if_neg (by omega)]
  split
  · rfl
  · split
    · rename_i h3
      exfalso
      rcases firstI_cases s.ac with ⟨_, e⟩ | ⟨j, e, _⟩
      · have := first_none.1 e
        unfold fc at hm
        rw [this] at hm
        simp at hm
        omega
      · omega
    · rfl
theorem room_step {q f k : Nat} {m : MS} {s : LS} (h : RoomP q f k s) (hs : OkL s) (hi : InvM m s) (hq : m.size = 4 * q) (hk : k + 3 < 4 * f) (b : ByteArray) (hb : 1 ≤ b.size ∧ b.size ≤ q) :
    RoomP q f (k + 1) (apS m s (-1) b) := by
  have hm := h.most
  rcases ap_on hs hi b with ⟨hE, e1, _⟩ | ⟨_, j, o, A⟩
  · exact absurd (room_cases h hs hq hk b.size hb) hE
  · rw [A.S]
    have hfr := A.free hs
    have hob : (at3 (rollU s j b.size).ac (rollU s j b.size).o).b = (o : Int) + (b.size : Int) := by
      show (at3 (rollU s j b.size).ac j).b = _
      rw [rollU_at hs A.jlt, ← A.use]
      dsimp only
      rw [if_pos rfl]
    obtain ⟨h1, h2⟩ := h
    rcases hfr with ⟨ej, e⟩ | ⟨ej, e⟩
    · have hfe : fc (rollU s j b.size) = fc s := by unfold fc; rw [e]
      refine ⟨by omega, ?_⟩
      rcases h2 with h2 | ⟨i, h2, h3, h4⟩
      · exact .inl (by omega)
      · refine .inr ⟨i + 1, by omega, ?_, by omega⟩
        rw [hob]
        have : (at3 s.ac s.o).b = (o : Int) := by rw [← ej]; exact A.use
        rw [this] at h3
        have e2 : ((i + 1 : Nat) : Int) * (q : Int) = (i : Int) * (q : Int) + (q : Int) := by rw [Int.natCast_add, Int.add_mul]; omega
        omega
    · have hfe : fc (rollU s j b.size) + 1 = fc s := e
      refine ⟨by omega, .inr ⟨1, Nat.le_refl _, ?_, ?_⟩⟩
      · rw [hob]
        rcases A.where_ with e3 | ⟨_, _, e3⟩
        · exact absurd e3 ej
        · rw [e3]; omega
      · rcases h2 with h2 | ⟨i, h2, h3, h4⟩
        · omega
        · rcases A.where_ with e3 | ⟨e4, _, e3⟩
          · exact absurd e3 ej
          · have hi4 : 4 ≤ i := by
              rcases Nat.lt_or_ge i 4 with hlt | hge
              · exfalso
                have : (i : Int) * (q : Int) ≤ 3 * (q : Int) := Int.mul_le_mul_of_nonneg_right (by omega) (by omega)
                omega
              · exact hge
            omega
/-- a right page lies just behind what was written there -/
theorem ap_inv {m : MS} {s : LS} (h : OkL s) (hi : InvM m s) (b : ByteArray) (hE : roomE m.size s b.size = 0) :
    ∃ j o, ApOn m s b j o := by
  rcases ap_on h hi b with ⟨e, _⟩ | ⟨_, j, o, A⟩
  · exact absurd hE e
  · exact ⟨j, o, A⟩
end Go.Proofs.Ytoenkkbcpafanaa.pags

/- What package dice's functions do to memory: copied, New, Taken, Next, Copy. -/

namespace Go.Proofs.Ytoenkkbcpafanaa.dice
set_option linter.unusedVariables false
set_option linter.unusedSimpArgs false
open Go.RowKit Go.Proofs.Ytoenkkbcpafanaa.base

theorem own : ownKnob Try.prog.godebug = none := by kernel_rfl
theorem info64 : (Try.prog.info? 25).map (fun i => (i.zero, i.size, i.bytes)) = some (some (.int .u64 0), 1, 8) := by kernel_rfl
theorem size64 : (Try.prog.info? 25).map (·.size) = some 1 := by kernel_rfl

theorem splice_all {α : Type} (L cs : List α) (h : cs.length = L.length) : splice L 0 cs = cs := by
  simp [splice, h]
theorem copied_any (A : Option Addr) (c : Nat) (xs : List Value) (w : World) (hr : Rd w w.heap.size A xs) (h1 : ∀ u ∈ xs, u.oneCell' = true) (hn : xs.length ≤ 35184372088832) :
    Calls Try.prog 122 #[.slice A xs.length c] w fun e w' =>
      ∃ g, e = .returned (.slice (some ⟨g, 0, none⟩) xs.length xs.length) ∧ w.heap.size ≤ g ∧ Blk w' g 25 xs.toArray ∧ Below w.heap.size w w' := by
  obtain ⟨i0, hi, hz0, hz1, hz2⟩ := info_parts info64
  have hmk : ∀ u : World, (Instr.makeSlice 136 (.int .i64 (xs.length : Int)) (.int .i64 (xs.length : Int))).run Try.prog u =
      .ok (.slice (some ⟨u.heap.size, 0, none⟩) xs.length xs.length) (u.alloc (.cells (madeCells #[.int .u64 0] xs.length) 25)) := fun u => by
    have h := run_make (P := Try.prog) u 136 25 i0 (.int .u64 0) Try.underlying136 hi hz0 .i64 .i64 (xs.length : Int) (xs.length : Int) (by omega) (Int.le_refl _) (by rw [hz2]; omega) (by omega)
    simpa [hz1, Value.cells] using h
  go_enter Try.func122, Try.ntmps122
  go_wp2_with (first
    | (refine wpList_copy_splice rfl (.tmp 7) (.tmp 8) _ _ rfl 25 Try.underlying136 size64 _ _ _ _ _ _ rfl rfl w.heap.size 0 (madeCells #[.int .u64 0] xs.length).toList 25 ?_ xs ?_ ?_ ?_ h1 w.heap.size w ?_ (Nat.le_refl _) ?_))
  · simpa using heap_alloc_new w _
  · simp
  · intro hpos
    obtain ⟨b, off, e, _, _⟩ := hr.at_ hpos
    refine ⟨_, e, fun j v hj => ?_⟩
    obtain ⟨b', off', e', hb', hc'⟩ := hr j v hj
    rw [e] at e'
    cases e'
    rw [add_plain]
    exact (World.cell?_alloc_lt w _ ⟨b, off + j, none⟩ hb').trans hc'
  · simp [size_madeCells]
  · exact (Below.refl _ _).alloc (Nat.le_refl _) _
  · intro w2 HG hB
    go_wp2
    go_ret
    refine ⟨w.heap.size, rfl, Nat.le_refl _, ?_, hB⟩
    have h := HG.out
    rwa [splice_all _ _ (by simp [size_madeCells])] at h

/-- dice at block gd, their list at block gl: the numbers zs, k of them taken -/
structure IsDice (w : World) (B gd gl : Nat) (zs : List Int) (k : Nat) : Prop where
  low : B ≤ gd
  lowl : B ≤ gl
  ne : gd ≠ gl
  self : Blk w gd 222 #[.slice (some ⟨gl, 0, none⟩) zs.length zs.length, .int .i64 k]
  list : Blk w gl 25 (zs.map (Value.int .u64)).toArray

def draw (zs : List Int) (k : Nat) : Int := if k < zs.length then zs[k]?.getD 0 else 1099511627776 + k

theorem IsDice.keep {w w' : World} {B gd gl : Nat} {zs : List Int} {k : Nat} (h : IsDice w B gd gl zs k) (hd : w'.heap[gd]? = w.heap[gd]?) (hl : w'.heap[gl]? = w.heap[gl]?) : IsDice w' B gd gl zs k :=
  ⟨h.low, h.lowl, h.ne, hd.trans h.self, hl.trans h.list⟩
theorem IsDice.mono {w : World} {B B' gd gl : Nat} {zs : List Int} {k : Nat} (h : IsDice w B gd gl zs k) (hB : B' ≤ B) : IsDice w B' gd gl zs k :=
  ⟨by have := h.low; omega, by have := h.lowl; omega, h.ne, h.self, h.list⟩
theorem IsDice.next {w : World} {B gd gl : Nat} {zs : List Int} {k : Nat} (h : IsDice w B gd gl zs k) : IsDice (w.setCell ⟨gd, 1, none⟩ (.int .i64 ((k + 1 : Nat) : Int))) B gd gl zs (k + 1) :=
  ⟨h.low, h.lowl, h.ne, by have := h.self.put 1 (.int .i64 ((k + 1 : Nat) : Int)); simpa using this, h.list.far (p := ⟨gd, 1, none⟩) (fun e => h.ne e.symm) _⟩

theorem one_cells (zs : List Int) : ∀ u ∈ zs.map (Value.int .u64), u.oneCell' = true := by
  intro u hu
  obtain ⟨z, _, rfl⟩ := List.mem_map.1 hu
  rfl

theorem new_long (A : Option Addr) (n c : Nat) (w : World) (hn : 100000 < n) (hm : n ≤ 35184372088832) :
    Calls Try.prog 56 #[.slice A n c] w fun e w' => e = .returned (.tuple #[.pointer none, .int .i64 2]) ∧ w' = w := by
  go_enter Try.func56, Try.ntmps56
  go_wp2
  go_ret2
  exact ⟨rfl, rfl⟩

theorem new_ok (A : Option Addr) (c : Nat) (zs : List Int) (w : World) (hr : Rd w w.heap.size A (zs.map (Value.int .u64))) (hn : zs.length ≤ 100000) :
    Calls Try.prog 56 #[.slice A zs.length c] w fun e w' =>
      ∃ gd gl, e = .returned (.tuple #[.pointer (some ⟨gd, 0, none⟩), .int .i64 0]) ∧ IsDice w' w.heap.size gd gl zs 0 ∧ Below w.heap.size w w' := by
  have hc := copied_any A c (zs.map (Value.int .u64)) w hr (one_cells zs) (by simp; omega)
  rw [List.length_map] at hc
  go_enter Try.func56, Try.ntmps56
  go_wp2_with (go_at_call 122; refine hc.mono ?_; rintro e w1 ⟨gl, rfl, hg, hb, hbel⟩)
  go_ret2
  refine ⟨w1.heap.size, gl, rfl, ⟨hbel.size, hg, by have := hb.lt; omega, ?_, hb.alloc _⟩, hbel.alloc hbel.size _⟩
  exact Blk.new w1 _ _

theorem taken_ok (w : World) (B gd gl : Nat) (zs : List Int) (k : Nat) (h : IsDice w B gd gl zs k) :
    Calls Try.prog 60 #[.pointer (some ⟨gd, 0, none⟩)] w fun e w' => e = .returned (.int .i64 k) ∧ w = w' := by
  have h1 : w.cell? ⟨gd, 1, none⟩ = some (.int .i64 k) := by rw [h.self.cell]; rfl
  clear h
  go_enter Try.func60, Try.ntmps60
  go_wp2
  go_ret
  exact ⟨rfl, rfl⟩

theorem next_ok (w : World) (B gd gl : Nat) (zs : List Int) (k : Nat) (h : IsDice w B gd gl zs k) (hk : k ≤ 1000000) :
    Calls Try.prog 126 #[.pointer (some ⟨gd, 0, none⟩)] w fun e w' => e = .returned (.int .u64 (draw zs k)) ∧ w' = w.setCell ⟨gd, 1, none⟩ (.int .i64 ((k + 1 : Nat) : Int)) := by
  have h0 : w.cell? ⟨gd, 0, none⟩ = some (.slice (some ⟨gl, 0, none⟩) zs.length zs.length) := by rw [h.self.cell]; rfl
  have h1 : w.cell? ⟨gd, 1, none⟩ = some (.int .i64 k) := by rw [h.self.cell]; rfl
  have hf : w.frozen? ⟨gd, 1, none⟩ = false := h.self.frozen 1
  by_cases hlt : k < zs.length
  · have h2 : w.cell? ⟨gl, k, none⟩ = some (.int .u64 (zs[k]?.getD 0)) := by rw [h.list.cell]; simp [hlt]
    have hne := h.ne
    clear h
    go_enter Try.func126, Try.ntmps126
    go_wp2
    go_ret
    exact ⟨by simp [draw, hlt], by simp⟩
  · clear h
    go_enter Try.func126, Try.ntmps126
    go_wp2
    go_ret
    exact ⟨by simp [draw, hlt], by simp⟩

theorem draw_ok (A : Option Addr) (c B : Nat) (zs : List Int) (k : Nat) (w : World) (hr : Rd w B A (zs.map (Value.int .u64))) (hk : k ≤ 1000000) :
    Calls Try.prog 67 #[.slice A zs.length c, .int .i64 k] w fun e w' => e = .returned (.int .u64 (draw zs k)) ∧ w = w' := by
  by_cases hlt : k < zs.length
  · obtain ⟨b, off, rfl, hb, hcell⟩ := hr.at_ (k := k) (by simpa using hlt)
    have h2 : w.cell? ⟨b, off + k, none⟩ = some (.int .u64 (zs[k]?.getD 0)) := by rw [hcell]; simp [hlt]
    clear hcell hr
    go_enter Try.func67, Try.ntmps67
    go_wp2
    go_ret
    exact ⟨by simp [draw, hlt], rfl⟩
  · clear hr
    go_enter Try.func67, Try.ntmps67
    go_wp2
    go_ret
    exact ⟨by simp [draw, hlt], rfl⟩

end Go.Proofs.Ytoenkkbcpafanaa.dice

/- Two references compared, by the model's own words. -/

namespace Go.Proofs.Ytoenkkbcpafanaa.trees
set_option linter.unusedVariables false
set_option linter.unusedSimpArgs false
open Go.RowKit Go.Proofs.Ytoenkkbcpafanaa.base Go.Proofs.Ytoenkkbcpafanaa.vers Go.Proofs.Ytoenkkbcpafanaa.nodes

/-- a reference -/
structure R where
  k : Nat
  g : Int
  o : Int
  n : Int
deriving DecidableEq
abbrev R.val (r : R) : Value := .agg #[.int .u64 (r.k : Int), .int .i64 r.g, .int .i64 r.o, .int .i64 r.n]
def R.fits (r : R) : Prop := r.k < 18446744073709551616 ∧ i64 r.g ∧ i64 r.o ∧ i64 r.n
set_option maxRecDepth 100000 in
theorem ref_neq (r r' : R) (u : World) : (binOp .neq 27 r.val r'.val).run Try.prog u = .ok (.bool (!decide (r = r'))) u := by
  obtain ⟨k, g, o, n⟩ := r
  obtain ⟨k', g', o', n'⟩ := r'
  by_cases h1 : k = k'
  · have d1 : ((k : Int) == (k' : Int)) = true := by simp [h1]
    by_cases h2 : g = g'
    · have d2 : (g == g') = true := by simp [h2]
      by_cases h3 : o = o'
      · have d3 : (o == o') = true := by simp [h3]
        by_cases h4 : n = n'
        · have d4 : (n == n') = true := by simp [h4]
          have e : decide ((⟨k, g, o, n⟩ : R) = ⟨k', g', o', n'⟩) = true := by simp [h1, h2, h3, h4]
          rw [e]
          clear h1 h2 h3 h4 e
          go_simp
        · have d4 : (n == n') = false := by simp [h4]
          have e : decide ((⟨k, g, o, n⟩ : R) = ⟨k', g', o', n'⟩) = false := by simp [h4]
          rw [e]
          clear h1 h2 h3 h4 e
          go_simp
      · have d3 : (o == o') = false := by simp [h3]
        have e : decide ((⟨k, g, o, n⟩ : R) = ⟨k', g', o', n'⟩) = false := by simp [h3]
        rw [e]
        clear h1 h2 h3 e
        go_simp
    · have d2 : (g == g') = false := by simp [h2]
      have e : decide ((⟨k, g, o, n⟩ : R) = ⟨k', g', o', n'⟩) = false := by simp [h2]
      rw [e]
      clear h1 h2 e
      go_simp
  · have d1 : ((k : Int) == (k' : Int)) = false := by simp; omega
    have e : decide ((⟨k, g, o, n⟩ : R) = ⟨k', g', o', n'⟩) = false := by simp [h1]
    rw [e]
    clear h1 e
    go_simp
set_option maxRecDepth 100000 in
theorem ref_eql (r r' : R) (u : World) : (binOp .eql 27 r.val r'.val).run Try.prog u = .ok (.bool (decide (r = r'))) u := by
  obtain ⟨k, g, o, n⟩ := r
  obtain ⟨k', g', o', n'⟩ := r'
  by_cases h1 : k = k'
  · have d1 : ((k : Int) == (k' : Int)) = true := by simp [h1]
    by_cases h2 : g = g'
    · have d2 : (g == g') = true := by simp [h2]
      by_cases h3 : o = o'
      · have d3 : (o == o') = true := by simp [h3]
        by_cases h4 : n = n'
        · have d4 : (n == n') = true := by simp [h4]
          have e : decide ((⟨k, g, o, n⟩ : R) = ⟨k', g', o', n'⟩) = true := by simp [h1, h2, h3, h4]
          rw [e]
          clear h1 h2 h3 h4 e
          go_simp
        · have d4 : (n == n') = false := by simp [h4]
          have e : decide ((⟨k, g, o, n⟩ : R) = ⟨k', g', o', n'⟩) = false := by simp [h4]
          rw [e]
          clear h1 h2 h3 h4 e
          go_simp
      · have d3 : (o == o') = false := by simp [h3]
        have e : decide ((⟨k, g, o, n⟩ : R) = ⟨k', g', o', n'⟩) = false := by simp [h3]
        rw [e]
        clear h1 h2 h3 e
        go_simp
    · have d2 : (g == g') = false := by simp [h2]
      have e : decide ((⟨k, g, o, n⟩ : R) = ⟨k', g', o', n'⟩) = false := by simp [h2]
      rw [e]
      clear h1 h2 e
      go_simp
  · have d1 : ((k : Int) == (k' : Int)) = false := by simp; omega
    have e : decide ((⟨k, g, o, n⟩ : R) = ⟨k', g', o', n'⟩) = false := by simp [h1]
    rw [e]
    clear h1 e
    go_simp
end Go.Proofs.Ytoenkkbcpafanaa.trees
