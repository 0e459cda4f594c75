/- The document's own look at a term: how many (Parts), how deep (Deep), each as the words say (One, shaped): Right. -/
import Derived.Test.YtgdmhfdlijeogaaLies
import Derived.Outline
import Derived.Lib.Hide
import Derived.Deep.Light
namespace Go.Proofs.Ytgdmhfdlijeogaa.counts
set_option linter.unusedVariables false
set_option linter.unusedSimpArgs false
open Go.RowKit Go.Proofs.Ytgdmhfdlijeogaa.base Go.Proofs.Ytgdmhfdlijeogaa.tm Go.Proofs.Ytgdmhfdlijeogaa.lies

/-- Parts, at a loop's head -/
def PHead (W : World) (l : List T) (m : Nat) (n i : Value) (wr : World) : Prop :=
  ∃ j : Nat, j ≤ l.length ∧ i = .int .i64 j ∧ n = .int .i64 (min (sizeL (l.take j) + 1) m : Nat) ∧ Below W.heap.size W wr

set_option maxRecDepth 100000 in
set_option maxHeartbeats 400000 in
theorem parts_any (N : Nat) : ∀ (t : T) (v : Value) (m : Nat) (x : Int) (w : World), t.size ≤ N → Lies w w.heap.size t v → x = (m : Int) → 1 ≤ m → m ≤ 4001 →
    Calls Try.prog 34 #[T.val t v, .int .i64 x] w fun e w' => e = .returned (.int .i64 (min t.size m : Nat)) ∧ Below w.heap.size w w' := by
  induction N with
  | zero => intro t v m x w h; have := size_pos t; omega
  | succ N ih =>
    intro t v m x w hN hL hx h1 hm
    subst hx
    obtain ⟨A, c, xs, rfl, hk, hn, hs, hlc, hc, hr, hl⟩ := hL.open_
    have hz := size_eq t
    have HZ := Lib.hid hz
    clear hz
    go_enter Try.func34, Try.ntmps34
    go_wp2_with fail
    go_loopw [5, 11] (fun n i wr => PHead w t.l m n i wr) (fun _ i _ => t.l.length - (intOf i).toNat)
    case atStart => exact ⟨0, Nat.zero_le _, rfl, by simp [sizeL]; omega, (Below.refl _ _).alloc (Nat.le_refl _) _⟩
    case round =>
      obtain ⟨j, hj, rfl, rfl, hb⟩ := hrel
      by_cases hlt : j < t.l.length
      · obtain ⟨b, off, A', c', rfl, hbl, hv, c0, c1, c2, c3⟩ := at_cells (hr.below hb) (hl.below hb) hlt
        have hg := size_get t.l j hlt
        by_cases hn' : m ≤ sizeL (t.l.take j) + 1
        · go_wp2_with fail
          go_ret
          exact ⟨ret_int (by rw [HZ.out]; omega), hb.alloc hb.size _⟩
        · go_wp2_with (go_at_call 34; refine (ih t.l[j] _ (m - (sizeL (t.l.take j) + 1)) _ _ (by have := HZ.out; omega) (hv.later hb.size _) (by omega) (by omega) (by omega)).mono ?_; rintro e w2 ⟨rfl, hb2⟩)
          exact ⟨⟨j + 1, hlt, by go_num, by rw [sizeL_take _ _ hlt]; congr 1; omega, below_call hb hb2⟩, by simp [intOf]; omega⟩
      · have hjl : t.l.take j = t.l := List.take_of_length_le (by omega)
        rw [hjl]
        go_wp2_with fail
        go_ret
        exact ⟨ret_int (by rw [HZ.out]), hb⟩

/-- Deep, at a loop's head -/
def DHead (W : World) (l : List T) (m : Nat) (n i : Value) (wr : World) : Prop :=
  ∃ j : Nat, j ≤ l.length ∧ i = .int .i64 j ∧ n = .int .i64 (deepL (l.take j) : Nat) ∧ deepL (l.take j) < m - 1 ∧ Below W.heap.size W wr

set_option maxRecDepth 100000 in
set_option maxHeartbeats 400000 in
theorem deep_any (N : Nat) : ∀ (t : T) (v : Value) (m : Nat) (x : Int) (w : World), t.size ≤ N → Lies w w.heap.size t v → x = (m : Int) → 1 ≤ m → m ≤ 4001 →
    Calls Try.prog 35 #[T.val t v, .int .i64 x] w fun e w' => e = .returned (.int .i64 (min t.deep m : Nat)) ∧ Below w.heap.size w w' := by
  induction N with
  | zero => intro t v m x w h; have := size_pos t; omega
  | succ N ih =>
    intro t v m x w hN hL hx h1 hm
    subst hx
    obtain ⟨A, c, xs, rfl, hk, hn, hs, hlc, hc, hr, hl⟩ := hL.open_
    have HS := lay (size_eq t)
    have HD := lay (deep_eq t)
    by_cases hm1 : m ≤ 1
    · go_enter Try.func35, Try.ntmps35
      go_wp2_with fail
      go_ret
      exact ⟨ret_int (by rw [HD.out]; omega), (Below.refl _ _).alloc (Nat.le_refl _) _⟩
    · go_enter Try.func35, Try.ntmps35
      go_wp2_with fail
      go_loopw [5, 15] (fun n i wr => DHead w t.l m n i wr) (fun _ i _ => t.l.length - (intOf i).toNat)
      case atStart => exact ⟨0, Nat.zero_le _, rfl, by simp [deepL], by simp [deepL]; omega, (Below.refl _ _).alloc (Nat.le_refl _) _⟩
      case round =>
        obtain ⟨j, hj, rfl, rfl, hlow, hb⟩ := hrel
        by_cases hlt : j < t.l.length
        · obtain ⟨b, off, A', c', rfl, hbl, hv, c0, c1, c2, c3⟩ := at_cells (hr.below hb) (hl.below hb) hlt
          have hg := size_get t.l j hlt
          have HG := lay (deep_get t.l j hlt)
          have HT := lay (deepL_take t.l j hlt)
          have hcall := fun wx (hx : Lies wx wx.heap.size t.l[j] (.slice A' t.l[j].l.length c')) (y : Int) (hy : y = ((m - 1 : Nat) : Int)) => ih t.l[j] (.slice A' t.l[j].l.length c') (m - 1) y wx (by have := HS.out; omega) hx hy (by omega) (by omega)
          by_cases hA : m - 1 ≤ t.l[j].deep
          · have e : min t.l[j].deep (m - 1) = m - 1 := by omega
            rw [e] at hcall
            clear e
            go_wp2_with (go_at_call 35; refine (hcall _ (hv.later hb.size _) _ (by omega)).mono ?_; rintro e w2 ⟨rfl, hb2⟩)
            go_ret
            exact ⟨ret_int (by rw [HD.out]; have := HG.out; omega), below_call hb hb2⟩
          · have e : min t.l[j].deep (m - 1) = t.l[j].deep := by omega
            rw [e] at hcall
            clear e
            by_cases hB : deepL (t.l.take j) < t.l[j].deep
            · go_wp2_with (go_at_call 35; refine (hcall _ (hv.later hb.size _) _ (by omega)).mono ?_; rintro e w2 ⟨rfl, hb2⟩)
              exact ⟨⟨j + 1, hlt, by go_num, by rw [HT.out]; congr 1; omega, by rw [HT.out]; omega, below_call hb hb2⟩, by simp [intOf]; omega⟩
            · go_wp2_with (go_at_call 35; refine (hcall _ (hv.later hb.size _) _ (by omega)).mono ?_; rintro e w2 ⟨rfl, hb2⟩)
              exact ⟨⟨j + 1, hlt, by go_num, by rw [HT.out]; congr 1; omega, by rw [HT.out]; omega, below_call hb hb2⟩, by simp [intOf]; omega⟩
        · have hjl : t.l.take j = t.l := List.take_of_length_le (by omega)
          rw [hjl] at hlow ⊢
          go_wp2_with fail
          go_ret
          exact ⟨ret_int (by rw [HD.out]; omega), hb⟩

set_option maxRecDepth 100000 in
set_option maxHeartbeats 400000 in
theorem one_any (t : T) (A : Option Addr) (c : Nat) (w : World) (hs : t.s.size ≤ maxLen) (hlc : t.l.length * 56 ≤ 140737488355328) :
    Calls Try.prog 42 #[T.val t (.slice A t.l.length c)] w fun e w' => e = .returned (.bool t.one) ∧ Below w.heap.size w w' := by
  unfold maxLen at hs
  by_cases h1 : t.k = 1
  · have k1 : (t.k == 1) = true := by simp [h1]
    clear h1
    go_enter Try.func42, Try.ntmps42
    go_wp2_with fail
    all_goals
      go_ret
      refine ⟨ret_bool ?_, (Below.refl _ _).alloc (Nat.le_refl _) _⟩
      go_light
      rw [one_eq]
      simp_all
      try (cases h : t.l <;> simp_all <;> omega)
      try (rw [Bool.eq_iff_iff]; simp <;> omega)
  · have k1 : (t.k == 1) = false := by simp [h1]
    by_cases h3 : t.k = 3
    · have k3 : (t.k == 3) = true := by simp [h3]
      clear h1 h3
      go_enter Try.func42, Try.ntmps42
      go_wp2_with fail
      all_goals
        go_ret
        refine ⟨ret_bool ?_, (Below.refl _ _).alloc (Nat.le_refl _) _⟩
        go_light
        rw [one_eq]
        simp_all
        try (cases h : t.l <;> simp_all <;> omega)
        try (rw [Bool.eq_iff_iff]; simp <;> omega)
    · have k3 : (t.k == 3) = false := by simp [h3]
      clear h1 h3
      by_cases h2 : t.k = 2
      · have k2 : (t.k == 2) = true := by simp [h2]
        clear h2
        go_enter Try.func42, Try.ntmps42
        go_wp2_with fail
        all_goals
          go_ret
          refine ⟨ret_bool ?_, (Below.refl _ _).alloc (Nat.le_refl _) _⟩
          go_light
          rw [one_eq]
          simp_all
          try (cases h : t.l <;> simp_all <;> omega)
          try (rw [Bool.eq_iff_iff]; simp <;> omega)
      · have k2 : (t.k == 2) = false := by simp [h2]
        clear h2
        by_cases h4 : t.k = 4
        · have k4 : (t.k == 4) = true := by simp [h4]
          clear h4
          go_enter Try.func42, Try.ntmps42
          go_wp2_with fail
          all_goals
            go_ret
            refine ⟨ret_bool ?_, (Below.refl _ _).alloc (Nat.le_refl _) _⟩
            go_light
            rw [one_eq]
            simp_all
            try (cases h : t.l <;> simp_all <;> omega)
            try (rw [Bool.eq_iff_iff]; simp <;> omega)
        · have k4 : (t.k == 4) = false := by simp [h4]
          clear h4
          by_cases h5 : t.k = 5
          · have k5 : (t.k == 5) = true := by simp [h5]
            clear h5
            go_enter Try.func42, Try.ntmps42
            go_wp2_with fail
            all_goals
              go_ret
              refine ⟨ret_bool ?_, (Below.refl _ _).alloc (Nat.le_refl _) _⟩
              go_light
              rw [one_eq]
              simp_all
              try (cases h : t.l <;> simp_all <;> omega)
              try (rw [Bool.eq_iff_iff]; simp <;> omega)
          · have k5 : (t.k == 5) = false := by simp [h5]
            clear h5
            go_enter Try.func42, Try.ntmps42
            go_wp2_with fail
            all_goals
              go_ret
              refine ⟨ret_bool ?_, (Below.refl _ _).alloc (Nat.le_refl _) _⟩
              go_light
              rw [one_eq]
              simp_all
              try (cases h : t.l <;> simp_all <;> omega)
              try (rw [Bool.eq_iff_iff]; simp <;> omega)
end Go.Proofs.Ytgdmhfdlijeogaa.counts
