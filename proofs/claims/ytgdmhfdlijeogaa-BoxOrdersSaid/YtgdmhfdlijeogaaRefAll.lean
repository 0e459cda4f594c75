/- The document's own reader of terms: read at any place. -/
import Derived.Test.YtgdmhfdlijeogaaRefTermC
namespace Go.Proofs.Ytgdmhfdlijeogaa.refReads
set_option linter.unusedVariables false
set_option linter.unusedSimpArgs false
open Go.RowKit Go.Proofs.Ytgdmhfdlijeogaa.base Go.Proofs.Ytgdmhfdlijeogaa.tm Go.Proofs.Ytgdmhfdlijeogaa.lies Go.Proofs.Ytgdmhfdlijeogaa.rights Go.Proofs.Ytgdmhfdlijeogaa.copies Go.Proofs.Ytgdmhfdlijeogaa.built Go.Proofs.Ytgdmhfdlijeogaa.reads Go.Proofs.Ytgdmhfdlijeogaa.numLaws

theorem read_list (s : ByteArray) (a b k n m cnt d : Nat) (kk nn : Int) (w : World) (e : Ending) (w' : World) (hkk : kk = (k : Int)) (hnn : nn = (n : Int)) (hk : k ≤ 5) (hn : n < 18446744073709551616)
    (h : ∃ v W w1 c0 c1 c2 c3 c4 c5 c6, e = .returned v ∧ Below w.heap.size w w' ∧ NVal s kk nn (b + 1) (many (readT d) cnt (s.data.toList.drop (a + 1 + m)) (b + 1)) W w1 v ∧ w' = seven w1 w.heap.size c0 c1 c2 c3 c4 c5 c6 ∧ w.heap.size < W.heap.size) :
    GPost w s b (match many (readT d) cnt (s.data.toList.drop (a + 1 + m)) (b + 1) with | .bad e => .bad e | .ok l r b' => .ok (.mk k n ⟨#[]⟩ l) r b') e w' := by
  obtain ⟨v, W, w1, c0, c1, c2, c3, c4, c5, c6, rfl, hb, hv, rfl, hW⟩ := h
  subst hkk hnn
  cases hm : many (readT d) cnt (s.data.toList.drop (a + 1 + m)) (b + 1) with
  | bad err =>
    rw [hm] at hv
    obtain ⟨h1, rfl⟩ := hv
    exact ⟨hb, h1, rfl⟩
  | ok l r b' =>
    rw [hm] at hv
    obtain ⟨A, c, a', rfl, h1, h2, h3, h4, h5⟩ := hv
    refine ⟨hb, A, c, a', rfl, h1, h2, by omega, h4, ?_, ?_⟩
    · exact h5.move (by omega) (by simp [seven]) fun p p1 p2 => seven_cell _ _ _ _ _ _ _ _ _ _ (by omega)
    · exact ⟨by show (-9223372036854775808 : Int) ≤ (k : Int) ∧ (k : Int) ≤ 9223372036854775807; omega, by show (0 : Int) ≤ (n : Int) ∧ (n : Int) < 18446744073709551616; omega, Nat.zero_le _⟩

theorem read_all (d : Nat) : ReadAt d := by
  induction d with
  | zero =>
    intro s a b x y z w hs ha hb hx hy hz _
    subst hx hy
    unfold readT
    by_cases h : 4000 ≤ b
    · rw [if_pos h]; exact (read_early s a b z 23 w hs (.inl ⟨h, rfl⟩) ha).mono fun e w' h => ⟨h.2, by decide, h.1⟩
    · rw [if_neg h]; exact (read_early s a b z 22 w hs (.inr (.inl ⟨by omega, by omega, rfl⟩)) ha).mono fun e w' h => ⟨h.2, by decide, h.1⟩
  | succ d ih =>
    intro s a b x y z w hs ha hb hx hy hz hd12
    subst hx hy
    have hz12 : z < 12 := by omega
    have hzd : z + 1 = 12 - (d : Int) := by omega
    unfold readT
    by_cases h : 4000 ≤ b
    · rw [if_pos h]; exact (read_early s a b z 23 w hs (.inl ⟨h, rfl⟩) ha).mono fun e w' h => ⟨h.2, by decide, h.1⟩
    · rw [if_neg h]
      have hb4 : b < 4000 := by omega
      by_cases hl : a < s.size
      · rw [hd_at s a hl]
        by_cases hk : s[a].toNat < 1 ∨ 5 < s[a].toNat
        · rw [if_pos hk]; exact (read_kind s a b z w hs hb4 hz12 hl hk).mono fun e w' h => ⟨h.2, by decide, h.1⟩
        · rw [if_neg hk]
          have hk1 : 1 ≤ s[a].toNat := by omega
          have hk5 : s[a].toNat ≤ 5 := by omega
          cases hq : getL (s.extract (a + 1) s.size).data.toList with
          | bad err => exact (read_bad s a b z err w hs hb4 hz12 hl hk1 hk5 hq).mono fun e w' h => ⟨h.2, getL_bad_ne hq, h.1⟩
          | ok n m =>
            have hm := getL_len hq
            rw [tail_list, List.length_drop] at hm
            simp at hm
            have hn := (getL_back hq).1
            have hlen : (s.data.toList.drop (a + 1 + m)).length = s.size - (a + 1 + m) := by simp
            have ham : a + 1 + m ≤ s.size := by omega
            have hx : (a : Int) + 1 + (m : Int) = ((a + 1 + m : Nat) : Int) := by omega
            simp only [body]
            by_cases h2 : s[a].toNat = 2
            · rw [if_pos h2]
              have hat := fun w => ratom_at s (a + 1 + m) n ((a : Int) + 1 + (m : Int)) ((b : Int) + 1) w hx hs ham hn
              by_cases c1 : 4000 < n
              · rw [if_pos c1]
                exact (read_atom s a b n m z w hs hb4 hz12 hl h2 hq _ (fun w => (hat w).mono fun e w' h => ⟨h.2.1 c1, h.1⟩) ⟨_, _, _, _, _, _, _, _, _, rfl⟩).mono fun e w' h => ⟨h.2, by decide, h.1⟩
              · rw [if_neg c1, hlen]
                by_cases c2 : s.size - (a + 1 + m) < n
                · rw [if_pos c2]
                  exact (read_atom s a b n m z w hs hb4 hz12 hl h2 hq _ (fun w => (hat w).mono fun e w' h => ⟨h.2.2.1 c1 c2, h.1⟩) ⟨_, _, _, _, _, _, _, _, _, rfl⟩).mono fun e w' h => ⟨h.2, by decide, h.1⟩
                · rw [if_neg c2]
                  refine (read_atom s a b n m z w hs hb4 hz12 hl h2 hq _ (fun w => (hat w).mono fun e w' h => ⟨h.2.2.2 c1 c2, h.1⟩) ⟨_, _, _, _, _, _, _, _, _, rfl⟩).mono fun e w' h => ⟨h.2, none, 0, a + 1 + m + n, h.1, by omega, ?_, by omega, by omega, Held.nil _ _ _, ?_⟩
                  · rw [List.drop_drop]
                  · exact ⟨by show (-9223372036854775808 : Int) ≤ 2 ∧ (2 : Int) ≤ 9223372036854775807; omega, by show (0 : Int) ≤ 0 ∧ (0 : Int) < 18446744073709551616; omega, by show ((s.data.toList.drop (a + 1 + m)).take n).length ≤ maxLen; rw [List.length_take]; unfold maxLen; omega⟩
            · rw [if_neg h2]
              by_cases h5 : s[a].toNat = 5
              · rw [if_pos h5]
                refine (read_row s a b n m z w hs hb4 hz12 hl h5 hq (NVal s 5 0 (b + 1) (many (readT d) n (s.data.toList.drop (a + 1 + m)) (b + 1))) (fun w => (more_any d ih (by omega) s 5 0 (a + 1 + m) (b + 1) n _ _ z _ w hs ham (by omega) hx (by omega) hzd rfl hn).mono fun e w' h => nval h)).mono fun e w' h => ?_
                exact read_list s a b 5 0 m n d 5 0 w e w' rfl rfl (by omega) (by omega) h
              · rw [if_neg h5]
                by_cases h4 : s[a].toNat = 4
                · rw [if_pos h4]
                  refine (read_box s a b n m z w hs hb4 hz12 hl h4 hq (NVal s 4 n (b + 1) (many (readT d) 1 (s.data.toList.drop (a + 1 + m)) (b + 1))) (fun w => (more_any d ih (by omega) s 4 n (a + 1 + m) (b + 1) 1 _ _ z _ w hs ham (by omega) hx (by omega) hzd rfl (by omega)).mono fun e w' h => nval h)).mono fun e w' h => ?_
                  exact read_list s a b 4 n m 1 d 4 n w e w' rfl rfl (by omega) hn h
                · rw [if_neg h4]
                  refine (read_num s a b n m z w hs hb4 hz12 hl (by omega) hq).mono fun e w' h => ⟨h.2, none, 0, a + 1 + m, h.1, ham, rfl, by omega, by omega, Held.nil _ _ _, ?_⟩
                  exact ⟨by show (-9223372036854775808 : Int) ≤ (s[a].toNat : Int) ∧ (s[a].toNat : Int) ≤ 9223372036854775807; omega, by show (0 : Int) ≤ (n : Int) ∧ (n : Int) < 18446744073709551616; omega, Nat.zero_le _⟩
      · rw [List.drop_of_length_le (by simp; omega)]
        exact (read_early s a b z 20 w hs (.inr (.inr ⟨hb4, hz12, by omega, rfl⟩)) ha).mono fun e w' h => ⟨h.2, by decide, h.1⟩

theorem dec1_below {w w2 : World} {o : Obj} (hG : Below (w.alloc o).heap.size (w.alloc o) w2) (a b c d : Value) (q : Obj) : Below w.heap.size w ((four w2 w.heap.size 0 a b c d).alloc q) := by
  have h : Below w.heap.size w w2 := ((Below.refl _ _).alloc (Nat.le_refl _) o).trans (hG.mono (by simp))
  exact (four_below h (Nat.le_refl _) a b c d).alloc (by rw [four_size]; exact h.size) q
theorem dec1_lies {w w2 : World} {o : Obj} {t : T} {v : Value} (hH : Held w2 (w.alloc o).heap.size w2.heap.size t.l v) (hF : Fits t) (a b c d : Value) (q : Obj) :
    Lies ((four w2 w.heap.size 0 a b c d).alloc q) ((four w2 w.heap.size 0 a b c d).alloc q).heap.size t v := by
  refine Held.lies (lo := (w.alloc o).heap.size) (hi := w2.heap.size) (hH.move (Nat.le_refl _) (Nat.le_refl _) fun p p1 p2 => ?_) hF.1 hF.2.1 hF.2.2 (by rw [World.size_alloc, four_size]; omega)
  simp only [World.size_alloc] at p1
  rw [World.cell?_alloc_lt _ _ _ (by rw [four_size]; exact p2), four_cell _ _ _ _ _ _ _ _ (by omega)]

set_option maxRecDepth 100000 in
set_option maxHeartbeats 400000 in
theorem refDecode_any (s : ByteArray) (w : World) (hs : s.size ≤ maxLen) :
    Calls Try.prog 31 #[.string s] w (DPost w (tm.decode s.data.toList)) := by
  have hcall := fun w => read_all 12 s 0 0 0 0 0 w hs (Nat.zero_le _) (by omega) rfl rfl (by omega) (Nat.le_refl _)
  simp only [List.drop_zero] at hcall
  have hres := Blk.new w 25 #[.int .i64 0, .int .u64 0, .string ⟨#[]⟩, .slice none 0 0]
  cases hq : readT 12 s.data.toList 0 with
  | bad err =>
    have HD := lay (show tm.decode s.data.toList = .bad err by unfold tm.decode; rw [hq])
    rw [hq] at hcall
    rw [HD.out]
    clear hq
    go_enter Try.func31, Try.ntmps31
    go_wp2_with fail
    refine (hcall _).mono ?_
    rintro e w2 ⟨hG, hne, rfl⟩
    have d2 : (err != 0) = true := by simpa using hne
    have HN := lay hne
    clear hne
    have hgw : w.heap.size < w2.heap.size := by have := hG.size; simp at this; omega
    have hB0 := hres.below hG (by simp)
    have q0 := hB0.cell 0
    have q1 := hB0.cell 1
    have q2 := hB0.cell 2
    have q3 := hB0.cell 3
    simp at q0 q1 q2 q3
    have fq0 := hB0.frozen 0
    have fq1 := hB0.frozen 1
    have fq2 := hB0.frozen 2
    have fq3 := hB0.frozen 3
    go_wp2_with fail
    go_region
    go_wp2_with fail
    refine bodyPost_ret (v := .tuple #[.agg #[.int .i64 0, .int .u64 0, .string ⟨#[]⟩, .slice none 0 0], .int .i64 err]) (by simp [results, Try.results31, go_sem, q0, q1, q2, q3, hgw]) rfl ?_
    exact ⟨(dec1_below hG _ _ _ _ _).drew, HN.out, rfl⟩
  | ok t r b =>
    rw [hq] at hcall
    by_cases hr : r = []
    · have HD := lay (show tm.decode s.data.toList = .ok t by unfold tm.decode; rw [hq]; exact if_pos hr)
      rw [HD.out]
      clear hq
      go_enter Try.func31, Try.ntmps31
      go_wp2_with fail
      refine (hcall _).mono ?_
      rintro e w2 ⟨hG, A2, c2, a2, rfl, ha2, hr2, hbb, hb4, hH, hF⟩
      have e0 : ¬ (a2 : Int) < (s.size : Int) := by
        have := congrArg List.length hr2
        rw [hr] at this
        simp at this
        omega
      clear hr hr2
      have hgw : w.heap.size < w2.heap.size := by have := hG.size; simp at this; omega
      have hB0 := hres.below hG (by simp)
      have q0 := hB0.cell 0
      have q1 := hB0.cell 1
      have q2 := hB0.cell 2
      have q3 := hB0.cell 3
      simp at q0 q1 q2 q3
      have fq0 := hB0.frozen 0
      have fq1 := hB0.frozen 1
      have fq2 := hB0.frozen 2
      have fq3 := hB0.frozen 3
      go_wp2_with fail
      refine bodyPost_ret (v := .tuple #[.agg #[.int .i64 t.k, .int .u64 t.n, .string t.s, .slice A2 t.l.length c2], .int .i64 0]) (by simp [results, Try.results31, go_sem, q0, q1, q2, q3, hgw]) rfl ?_
      exact ⟨dec1_below hG _ _ _ _ _, A2, c2, rfl, dec1_lies hH hF _ _ _ _ _⟩
    · have HD := lay (show tm.decode s.data.toList = .bad 24 by unfold tm.decode; rw [hq]; exact if_neg hr)
      rw [HD.out]
      clear hq
      go_enter Try.func31, Try.ntmps31
      go_wp2_with fail
      refine (hcall _).mono ?_
      rintro e w2 ⟨hG, A2, c2, a2, rfl, ha2, hr2, hbb, hb4, hH, hF⟩
      have e0 : (a2 : Int) < (s.size : Int) := by
        by_cases h : a2 < s.size
        · omega
        · refine absurd ?_ hr
          rw [← hr2]
          exact List.drop_of_length_le (by simp; omega)
      clear hr hr2
      have hgw : w.heap.size < w2.heap.size := by have := hG.size; simp at this; omega
      have hB0 := hres.below hG (by simp)
      have q0 := hB0.cell 0
      have q1 := hB0.cell 1
      have q2 := hB0.cell 2
      have q3 := hB0.cell 3
      simp at q0 q1 q2 q3
      have fq0 := hB0.frozen 0
      have fq1 := hB0.frozen 1
      have fq2 := hB0.frozen 2
      have fq3 := hB0.frozen 3
      go_wp2_with fail
      refine bodyPost_ret (v := .tuple #[.agg #[.int .i64 0, .int .u64 0, .string ⟨#[]⟩, .slice none 0 0], .int .i64 24]) (by simp [results, Try.results31, go_sem, q0, q1, q2, q3, hgw]) rfl ?_
      exact ⟨dec1_below hG _ _ _ _ _, by decide, rfl⟩
end Go.Proofs.Ytgdmhfdlijeogaa.refReads
