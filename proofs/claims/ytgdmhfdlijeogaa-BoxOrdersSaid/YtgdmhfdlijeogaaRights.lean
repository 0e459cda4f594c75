/- The program's own look at a term: count.add, formed, Right; and the document's shaped and Right. -/
import Derived.Test.YtgdmhfdlijeogaaCount
namespace Go.Proofs.Ytgdmhfdlijeogaa.rights
set_option linter.unusedVariables false
set_option linter.unusedSimpArgs false
open Go.RowKit Go.Proofs.Ytgdmhfdlijeogaa.base Go.Proofs.Ytgdmhfdlijeogaa.tm Go.Proofs.Ytgdmhfdlijeogaa.lies Go.Proofs.Ytgdmhfdlijeogaa.counts

set_option maxRecDepth 100000 in
set_option maxHeartbeats 400000 in
theorem formed_any (t : T) (A : Option Addr) (c : Nat) (w : World) (hs : t.s.size ≤ maxLen) (hlc : t.l.length * 56 ≤ 140737488355328) :
    Calls Try.prog 41 #[T.val t (.slice A t.l.length c)] w fun e w' => e = .returned (.bool t.one) ∧ Below w.heap.size w w' := by
  unfold maxLen at hs
  by_cases h1 : t.k = 1
  · have k1 : (t.k == 1) = true := by simp [h1]
    clear h1
    go_enter Try.func41, Try.ntmps41
    go_wp2_with fail
    all_goals
      go_ret
      refine ⟨ret_bool ?_, (Below.refl _ _).alloc (Nat.le_refl _) _⟩
      go_light
      rw [one_eq]
      simp_all
      try (cases h : t.l <;> simp_all <;> omega)
      try (rw [Bool.eq_iff_iff]; simp <;> omega)
  · have k1 : (t.k == 1) = false := by simp [h1]
    by_cases h3 : t.k = 3
    · have k3 : (t.k == 3) = true := by simp [h3]
      clear h1 h3
      go_enter Try.func41, Try.ntmps41
      go_wp2_with fail
      all_goals
        go_ret
        refine ⟨ret_bool ?_, (Below.refl _ _).alloc (Nat.le_refl _) _⟩
        go_light
        rw [one_eq]
        simp_all
        try (cases h : t.l <;> simp_all <;> omega)
        try (rw [Bool.eq_iff_iff]; simp <;> omega)
    · have k3 : (t.k == 3) = false := by simp [h3]
      clear h1 h3
      by_cases h2 : t.k = 2
      · have k2 : (t.k == 2) = true := by simp [h2]
        clear h2
        go_enter Try.func41, Try.ntmps41
        go_wp2_with fail
        all_goals
          go_ret
          refine ⟨ret_bool ?_, (Below.refl _ _).alloc (Nat.le_refl _) _⟩
          go_light
          rw [one_eq]
          simp_all
          try (cases h : t.l <;> simp_all <;> omega)
          try (rw [Bool.eq_iff_iff]; simp <;> omega)
      · have k2 : (t.k == 2) = false := by simp [h2]
        clear h2
        by_cases h4 : t.k = 4
        · have k4 : (t.k == 4) = true := by simp [h4]
          clear h4
          go_enter Try.func41, Try.ntmps41
          go_wp2_with fail
          all_goals
            go_ret
            refine ⟨ret_bool ?_, (Below.refl _ _).alloc (Nat.le_refl _) _⟩
            go_light
            rw [one_eq]
            simp_all
            try (cases h : t.l <;> simp_all <;> omega)
            try (rw [Bool.eq_iff_iff]; simp <;> omega)
        · have k4 : (t.k == 4) = false := by simp [h4]
          clear h4
          by_cases h5 : t.k = 5
          · have k5 : (t.k == 5) = true := by simp [h5]
            clear h5
            go_enter Try.func41, Try.ntmps41
            go_wp2_with fail
            all_goals
              go_ret
              refine ⟨ret_bool ?_, (Below.refl _ _).alloc (Nat.le_refl _) _⟩
              go_light
              rw [one_eq]
              simp_all
              try (cases h : t.l <;> simp_all <;> omega)
              try (rw [Bool.eq_iff_iff]; simp <;> omega)
          · have k5 : (t.k == 5) = false := by simp [h5]
            clear h5
            go_enter Try.func41, Try.ntmps41
            go_wp2_with fail
            all_goals
              go_ret
              refine ⟨ret_bool ?_, (Below.refl _ _).alloc (Nat.le_refl _) _⟩
              go_light
              rw [one_eq]
              simp_all
              try (cases h : t.l <;> simp_all <;> omega)
              try (rw [Bool.eq_iff_iff]; simp <;> omega)

/-- shaped, at a loop's head -/
def SHead (W : World) (l : List T) (i : Value) (wr : World) : Prop :=
  ∃ j : Nat, j ≤ l.length ∧ i = .int .i64 j ∧ Hid (shapedL (l.take j) = true) ∧ Below W.heap.size W wr

theorem bcell {W w1 : World} (hb : Below W.heap.size W w1) : (∀ b o, b < W.heap.size → w1.cell? ⟨b, o, none⟩ = W.cell? ⟨b, o, none⟩) ∧ (∀ b o, b < W.heap.size → w1.frozen? ⟨b, o, none⟩ = W.frozen? ⟨b, o, none⟩) :=
  ⟨fun b o h => hb.cell (p := ⟨b, o, none⟩) h, fun b o h => hb.frozen (p := ⟨b, o, none⟩) h⟩

set_option maxRecDepth 100000 in
set_option maxHeartbeats 400000 in
theorem shaped_any (N : Nat) : ∀ (t : T) (v : Value) (w : World), t.size ≤ N → Lies w w.heap.size t v →
    Calls Try.prog 36 #[T.val t v] w fun e w' => e = .returned (.bool t.shaped) ∧ Below w.heap.size w w' := by
  induction N with
  | zero => intro t v w h; have := size_pos t; omega
  | succ N ih =>
    intro t v w hN hL
    obtain ⟨A, c, xs, rfl, hk, hn, hs, hlc, hc, hr, hl⟩ := hL.open_
    have HS := lay (size_eq t)
    have HP := lay (shaped_eq t)
    have hone := fun wx => one_any t A c wx hs (by omega)
    cases ho : t.one with
    | false =>
      rw [ho] at hone
      have HO := lay ho
      clear ho
      go_enter Try.func36, Try.ntmps36
      go_wp2_with (go_at_call 42; refine (hone _).mono ?_; rintro e w1 ⟨rfl, hb1⟩)
      go_ret
      exact ⟨ret_bool (by rw [HP.out, HO.out]; rfl), below_call (Below.refl _ _) hb1⟩
    | true =>
      rw [ho] at hone
      have HO := lay ho
      clear ho
      go_enter Try.func36, Try.ntmps36
      go_wp2_with (go_at_call 42; refine (hone _).mono ?_; rintro e w1 ⟨rfl, hb1⟩; obtain ⟨hc1, hf1⟩ := bcell hb1)
      have hb0 := below_call (Below.refl _ _) hb1
      clear hb1 hc1 hf1
      go_loopw [11] (fun i wr => SHead w t.l i wr) (fun i _ => t.l.length - (intOf i).toNat)
      case atStart => exact ⟨0, Nat.zero_le _, rfl, lay rfl, hb0⟩
      case round =>
        obtain ⟨j, hj, rfl, hsh, hb⟩ := hrel
        by_cases hlt : j < t.l.length
        · obtain ⟨b, off, A', c', rfl, hbl, hv, c0, c1, c2, c3⟩ := at_cells (hr.below hb) (hl.below hb) hlt
          have hg := size_get t.l j hlt
          have hcall := fun wx (hx : Lies wx wx.heap.size t.l[j] (.slice A' t.l[j].l.length c')) => ih t.l[j] (.slice A' t.l[j].l.length c') wx (by have := HS.out; omega) hx
          cases hq : t.l[j].shaped with
          | false =>
            rw [hq] at hcall
            have HQ := lay (shapedL_get t.l j hlt hq)
            clear hq
            go_wp2_with (go_at_call 36; refine (hcall _ (hv.later hb.size _)).mono ?_; rintro e w2 ⟨rfl, hb2⟩)
            go_ret
            exact ⟨ret_bool (by rw [HP.out, HQ.out]; simp), below_call hb hb2⟩
          | true =>
            rw [hq] at hcall
            have HQ := lay hq
            clear hq
            go_wp2_with (go_at_call 36; refine (hcall _ (hv.later hb.size _)).mono ?_; rintro e w2 ⟨rfl, hb2⟩)
            exact ⟨⟨j + 1, hlt, by go_num, lay (by rw [shapedL_take _ _ hlt, hsh.out, HQ.out]; rfl), below_call hb hb2⟩, by simp [intOf]; omega⟩
        · have hjl : t.l.take j = t.l := List.take_of_length_le (by omega)
          rw [hjl] at hsh
          go_wp2_with fail
          go_ret
          exact ⟨ret_bool (by rw [HP.out, HO.out, hsh.out]; rfl), hb⟩

set_option maxRecDepth 100000 in
set_option maxHeartbeats 400000 in
theorem refRight_any (t : T) (v : Value) (w : World) (hL : Lies w w.heap.size t v) :
    Calls Try.prog 23 #[T.val t v] w fun e w' => e = .returned (.int .i64 t.right) ∧ Below w.heap.size w w' := by
  obtain ⟨A, c, xs, rfl, hk, hn, hs, hlc, hc, hr, hl⟩ := hL.open_
  have p1 := fun wx (hx : Lies wx wx.heap.size t (.slice A t.l.length c)) => parts_any t.size t _ 4001 4001 wx (Nat.le_refl _) hx rfl (by omega) (by omega)
  have p2 := fun wx (hx : Lies wx wx.heap.size t (.slice A t.l.length c)) => deep_any t.size t _ 13 13 wx (Nat.le_refl _) hx rfl (by omega) (by omega)
  have p3 := fun wx (hx : Lies wx wx.heap.size t (.slice A t.l.length c)) => shaped_any t.size t _ wx (Nat.le_refl _) hx
  have hL1 := hL.later (Nat.le_refl _) (.cells #[.int .i64 t.k, .int .u64 t.n, .string t.s, .slice A t.l.length c] 25)
  by_cases h1 : 4000 < t.size
  · have HR : Hid (t.right = 23) := lay (by unfold T.right; rw [if_pos h1])
    go_enter Try.func23, Try.ntmps23
    go_wp2_with (go_at_call 34; refine (p1 _ hL1).mono ?_; rintro e w1 ⟨rfl, hb1⟩)
    go_ret
    exact ⟨ret_int (by rw [HR.out]), below_call (Below.refl _ _) hb1⟩
  · by_cases h2 : 12 < t.deep
    · have HR : Hid (t.right = 22) := lay (by unfold T.right; rw [if_neg h1, if_pos h2])
      go_enter Try.func23, Try.ntmps23
      go_wp2_with (first
        | (go_at_call 34; refine (p1 _ hL1).mono ?_; rintro e w1 ⟨rfl, hb1⟩; obtain ⟨hc1, hf1⟩ := bcell hb1; have hL2 := (hL1.below hb1).now hb1.size)
        | (go_at_call 35; refine (p2 _ hL2).mono ?_; rintro e w2 ⟨rfl, hb2⟩))
      go_ret
      exact ⟨ret_int (by rw [HR.out]), below_call (Below.refl _ _) (hb1.trans (hb2.mono hb1.size))⟩
    · have HR : Hid (t.right = if t.shaped then 0 else 25) := lay (by unfold T.right; rw [if_neg h1, if_neg h2])
      cases hq : t.shaped with
      | false =>
        rw [hq] at HR p3
        clear hq
        go_enter Try.func23, Try.ntmps23
        go_wp2_with (first
          | (go_at_call 34; refine (p1 _ hL1).mono ?_; rintro e w1 ⟨rfl, hb1⟩; obtain ⟨hc1, hf1⟩ := bcell hb1; have hL2 := (hL1.below hb1).now hb1.size)
          | (go_at_call 35; refine (p2 _ hL2).mono ?_; rintro e w2 ⟨rfl, hb2⟩; obtain ⟨hc2, hf2⟩ := bcell hb2; have hL3 := (hL2.below hb2).now hb2.size; have hz2 : w.heap.size < w1.heap.size := by have := hb1.size; simp at this; omega)
          | (go_at_call 36; refine (p3 _ hL3).mono ?_; rintro e w3 ⟨rfl, hb3⟩))
        go_ret
        exact ⟨ret_int (by rw [HR.out]; rfl), below_call (Below.refl _ _) ((hb1.trans (hb2.mono hb1.size)).trans (hb3.mono (by have := hb1.size; have := hb2.size; omega)))⟩
      | true =>
        rw [hq] at HR p3
        clear hq
        go_enter Try.func23, Try.ntmps23
        go_wp2_with (first
          | (go_at_call 34; refine (p1 _ hL1).mono ?_; rintro e w1 ⟨rfl, hb1⟩; obtain ⟨hc1, hf1⟩ := bcell hb1; have hL2 := (hL1.below hb1).now hb1.size)
          | (go_at_call 35; refine (p2 _ hL2).mono ?_; rintro e w2 ⟨rfl, hb2⟩; obtain ⟨hc2, hf2⟩ := bcell hb2; have hL3 := (hL2.below hb2).now hb2.size; have hz2 : w.heap.size < w1.heap.size := by have := hb1.size; simp at this; omega)
          | (go_at_call 36; refine (p3 _ hL3).mono ?_; rintro e w3 ⟨rfl, hb3⟩))
        go_ret
        exact ⟨ret_int (by rw [HR.out]; rfl), below_call (Below.refl _ _) ((hb1.trans (hb2.mono hb1.size)).trans (hb3.mono (by have := hb1.size; have := hb2.size; omega)))⟩
end Go.Proofs.Ytgdmhfdlijeogaa.rights
