/- SegmentRoom. -/
import Derived.Test.YthmamlghmagmkaaSgJ


namespace Go.Proofs.Ythmamlghmagmkaa.segs
set_option linter.unusedVariables false
set_option linter.unusedSimpArgs false
open Go.RowKit Go.Shelf Go.Proofs.Ythmamlghmagmkaa.base Go.Proofs.Ythmamlghmagmkaa.trees Go.Proofs.Ythmamlghmagmkaa.powers Go.Proofs.Ythmamlghmagmkaa.mediums Go.Lib

/-- how many segments are free -/
def fc (s : LS) : Nat := (those s.ac 1).length
/-- what holds behind some appends -/
structure RoomAt (w0 w : World) (p g lg ab c size : Nat) (past : Nat) (m : MS) (s : LS) : Prop where
  sg : ∃ S W, Sg w0.heap.size w0 w S p g lg ab c m s (-1) W
  inv : InvM m s
  size : m.size = size
  past : m.past.length ≤ past
theorem RoomAt.below {w0 w w' : World} {p g lg ab c size past : Nat} {m : MS} {s : LS} (h : RoomAt w0 w p g lg ab c size past m s) (hb : Below w.heap.size w w') : RoomAt w0 w' p g lg ab c size past m s := by
  obtain ⟨⟨S, W, h1⟩, h2, h3, h4⟩ := h
  exact ⟨⟨S, W, h1.below hb⟩, h2, h3, h4⟩
theorem RoomAt.hb {w0 w : World} {p g lg ab c size past : Nat} {m : MS} {s : LS} (h : RoomAt w0 w p g lg ab c size past m s) : Below w0.heap.size w0 w := by
  obtain ⟨⟨S, W, h1⟩, _⟩ := h
  exact h1.hb
theorem RoomAt.ok {w0 w : World} {p g lg ab c size past : Nat} {m : MS} {s : LS} (h : RoomAt w0 w p g lg ab c size past m s) : OkL s ∧ LgAt w g lg ab c s := by
  obtain ⟨⟨S, W, h1⟩, _⟩ := h
  exact ⟨h1.log.ok, h1.log⟩
/-- an append -/
theorem RoomAt.append {w0 w : World} {p g lg ab c size past : Nat} {m : MS} {s : LS} (h : RoomAt w0 w p g lg ab c size past m s) (hp : past ≤ 1000) (b : ByteArray) (hbs : b.size ≤ 9223372036854775807) :
    Calls Try.prog 39 #[.pointer (some ⟨lg, 0, none⟩), .string b] w fun e w' => e = .returned (.tuple #[(apV m s (-1) b).v, .int .i64 (apE m s (-1) b)]) ∧ RoomAt w0 w' p g lg ab c size (past + 1) (apM m s (-1) b) (apS m s (-1) b) := by
  obtain ⟨⟨S, W, h1⟩, h2, h3, h4⟩ := h
  refine (append_any h1 b hbs (by omega)).mono ?_
  rintro e w' ⟨rfl, S', T, _, _⟩
  refine ⟨rfl, ?_⟩
  rcases ap_on h1.log.ok h2 b with ⟨_, _, _, eM, eS, eL⟩ | ⟨_, j, o, A⟩
  · rw [eM, eS, eL] at T
    rw [eM, eS]
    exact ⟨⟨S', _, T⟩, h2, h3, by omega⟩
  · rw [A.M, A.S, A.L] at T
    rw [A.M, A.S]
    exact ⟨⟨S', _, T⟩, A.inv, h3, by rw [A.past]; omega⟩
/-- one fewer is free, or as many as before -/
theorem fc_app {m : MS} {s : LS} (h : OkL s) (hi : InvM m s) (b : ByteArray) : fc s ≤ fc (apS m s (-1) b) + 1 := by
  unfold fc
  rcases ap_on h hi b with ⟨_, _, _, _, eS, _⟩ | ⟨_, j, o, A⟩
  · rw [eS]; omega
  · rw [A.S]
    rcases A.free h with ⟨_, e⟩ | ⟨_, e⟩
    · rw [e]; omega
    · omega
/-- of f free ones at the beginning r are taken by k rows -/
def RoomP (q f k : Nat) (s : LS) : Prop := fc s ≤ f ∧ (fc s = f ∨ ∃ i : Nat, 1 ≤ i ∧ (at3 s.ac s.o).b ≤ (i : Int) * (q : Int) ∧ 4 * (f - fc s - 1) + i ≤ k)
theorem RoomP.start (q : Nat) (s : LS) : RoomP q (fc s) 0 s := ⟨Nat.le_refl _, .inl rfl⟩
theorem RoomP.most {q f k : Nat} {s : LS} (h : RoomP q f k s) : 4 * (f - fc s) ≤ k + 3 := by
  obtain ⟨h1, h2 | ⟨i, h2, h3, h4⟩⟩ := h <;> omega
theorem RoomP.step {q f k : Nat} {m : MS} {s : LS} (h : RoomP q f k s) (hs : OkL s) (hi : InvM m s) (hq : m.size = 4 * q) (hf : 101 < f) (hk : k ≤ 399) (b : ByteArray) (hb : 1 ≤ b.size ∧ b.size ≤ q) :
    apE m s (-1) b = 0 ∧ RoomP q f (k + 1) (apS m s (-1) b) := by
  have hm := h.most
  rcases ap_on hs hi b with ⟨hE, e1, _⟩ | ⟨_, j, o, A⟩
  · exfalso
    unfold roomE at hE
    rw [if_neg (by omega)] at hE
    split at hE
    · exact hE rfl
    · split at hE
      · rename_i h3
        rcases firstI_cases s.ac with ⟨_, e⟩ | ⟨j, e, _⟩
        · have := first_none.1 e
          unfold fc at hm
          rw [this] at hm
          simp at hm
          omega
        · omega
      · exact hE rfl
  · refine ⟨A.E, ?_⟩
    rw [A.S]
    have hfr := A.free hs
    have hob : (at3 (rollU s j b.size).ac (rollU s j b.size).o).b = (o : Int) + (b.size : Int) := by
      show (at3 (rollU s j b.size).ac j).b = _
      rw [rollU_at hs A.jlt, ← A.use]
      dsimp only
      rw [if_pos rfl]
    obtain ⟨h1, h2⟩ := h
    rcases hfr with ⟨ej, e⟩ | ⟨ej, e⟩
    · have hfe : fc (rollU s j b.size) = fc s := by unfold fc; rw [e]
      refine ⟨by omega, ?_⟩
      rcases h2 with h2 | ⟨i, h2, h3, h4⟩
      · exact .inl (by omega)
      · refine .inr ⟨i + 1, by omega, ?_, by omega⟩
        rw [hob]
        have : (at3 s.ac s.o).b = (o : Int) := by rw [← ej]; exact A.use
        rw [this] at h3
        have e2 : ((i + 1 : Nat) : Int) * (q : Int) = (i : Int) * (q : Int) + (q : Int) := by rw [Int.natCast_add, Int.add_mul]; omega
        omega
    · have hfe : fc (rollU s j b.size) + 1 = fc s := e
      refine ⟨by omega, .inr ⟨1, Nat.le_refl _, ?_, ?_⟩⟩
      · rw [hob]
        rcases A.where_ with e3 | ⟨_, _, e3⟩
        · exact absurd e3 ej
        · rw [e3]; omega
      · rcases h2 with h2 | ⟨i, h2, h3, h4⟩
        · omega
        · rcases A.where_ with e3 | ⟨e4, _, e3⟩
          · exact absurd e3 ej
          · have hi4 : 4 ≤ i := by
              rcases Nat.lt_or_ge i 4 with hlt | hge
              · exfalso
                have : (i : Int) * (q : Int) ≤ 3 * (q : Int) := Int.mul_le_mul_of_nonneg_right (by omega) (by omega)
                omega
              · exact hge
            omega

end Go.Proofs.Ythmamlghmagmkaa.segs
