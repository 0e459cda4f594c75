/- SegmentFrees. -/
import Derived.Test.YthmamlghmagmkaaSgK


namespace Go.Proofs.Ythmamlghmagmkaa.segs
set_option linter.unusedVariables false
set_option linter.unusedSimpArgs false
open Go.RowKit Go.Shelf Go.Proofs.Ythmamlghmagmkaa.base Go.Proofs.Ythmamlghmagmkaa.trees Go.Proofs.Ythmamlghmagmkaa.powers Go.Proofs.Ythmamlghmagmkaa.mediums Go.Lib

theorem InvM.settled {m : MS} {s : LS} {ps ac' : List T3} (h : InvM m s) (hs : settledP s.ac ps = some ac') : InvM m ⟨s.o, ac'⟩ := by
  obtain ⟨e, _, ha⟩ := settled_at hs
  refine ⟨e.trans h.1, h.2.1, fun i hi => ?_⟩
  replace hi : i < ac'.length := hi
  rw [e] at hi
  show (at3 ac' i).b ≤ _
  rw [ha i hi]
  have := h.2.2 i hi
  by_cases hf : (at3 s.ac i).a = 2 ∧ liveIn ps i = 0
  · rw [free_yes hf]; exact Int.natCast_nonneg _
  · rw [free_no hf]; exact this
/-- Settle -/
theorem RoomAt.settle {w0 w : World} {p g lg ab c size past : Nat} {m : MS} {s : LS} (h : RoomAt w0 w p g lg ab c size past m s) (ps : List T3) (A : Option Addr) (cp : Nat) (F : Nat → Prop) (hF : ∀ k, F k → k < w.heap.size) (hP : PsF w F ps A cp) :
    Calls Try.prog 42 #[.pointer (some ⟨lg, 0, none⟩), .slice A ps.length cp] w fun e w' => (settledP s.ac ps = none ∧ e = .returned (.int .i64 121) ∧ Below w.heap.size w w') ∨
      (∃ ac' ab' c', settledP s.ac ps = some ac' ∧ e = .returned (.int .i64 0) ∧ RoomAt w0 w' p g lg ab' c' size past m ⟨s.o, ac'⟩ ∧ Keep (fun k => k = lg) w w') := by
  obtain ⟨⟨S, W, h1⟩, h2, h3, h4⟩ := h
  refine (settle_ok h1.log ps A cp F hF hP).mono ?_
  rintro e w' (⟨a, b, d⟩ | ⟨ac', ab', c', hs, he, hl, hk, hab⟩)
  · exact .inl ⟨a, b, d⟩
  · have hlen := (settled_at hs).1
    exact .inr ⟨ac', ab', c', hs, he, ⟨⟨S, W, h1.turn hl (hk.mono fun k hk _ => .inl hk) (.inr hab) hlen⟩, h2.settled hs, h3, h4⟩, hk⟩
theorem psF_nil (w : World) (F : Nat → Prop) : PsF w F [] none 0 := ⟨Nat.le_refl _, by simp, fun _ => rfl, RdF.nil _ _ _, fun x hx => by cases hx⟩
theorem settle_nil {s : LS} (h : OkL s) : ∃ ac', settledP s.ac [] = some ac' ∧ those ac' 2 = [] ∧ (those ac' 1).length + 1 = s.ac.length := by
  obtain ⟨ac', hs⟩ : ∃ ac', settledP s.ac [] = some ac' := ⟨_, by unfold settledP; exact if_pos ⟨rfl, List.Pairwise.nil⟩⟩
  obtain ⟨e, _, ha⟩ := settled_at hs
  have ok := h.p.settled (ps := []) (by simp) hs
  have h2 : those ac' 2 = [] := by
    rw [List.eq_nil_iff_forall_not_mem]
    intro i hi
    obtain ⟨h1, h2⟩ := mem_those.1 hi
    rw [e] at h1
    rw [ha i h1] at h2
    by_cases hf : (at3 s.ac i).a = 2 ∧ liveIn [] i = 0
    · rw [free_yes hf] at h2; simp at h2
    · rw [free_no hf] at h2; exact hf ⟨h2, rfl⟩
  refine ⟨ac', hs, h2, ?_⟩
  have := parted ok
  rw [h2] at this
  simp only [List.length_nil, Nat.add_zero] at this
  rw [this]
  exact e
theorem roomE_cases (size : Nat) (s : LS) (n : Nat) : roomE size s n = 0 ∨ roomE size s n = 2 ∨ (roomE size s n = 140 ∧ fc s = 0) := by
  unfold roomE
  split
  · exact .inr (.inl rfl)
  · split
    · exact .inl rfl
    · split
      · rename_i h
        rcases firstI_cases s.ac with ⟨_, e⟩ | ⟨j, e, _⟩
        · refine .inr (.inr ⟨rfl, ?_⟩)
          unfold fc
          rw [first_none.1 e]
          rfl
        · omega
      · exact .inl rfl

end Go.Proofs.Ythmamlghmagmkaa.segs
