/- A term's bytes: the program's appendTerm, Encode and Size. -/
import Derived.Test.YtoenkkbcpafanaaA35
import Derived.Test.YtoenkkbcpafanaaA32


namespace Go.Proofs.Ytoenkkbcpafanaa.encs
set_option linter.unusedVariables false
set_option linter.unusedSimpArgs false
open Go.RowKit Go.Proofs.Ytoenkkbcpafanaa.base Go.Proofs.Ytoenkkbcpafanaa.tm Go.Proofs.Ytoenkkbcpafanaa.bytes Go.Proofs.Ytoenkkbcpafanaa.lies Go.Proofs.Ytoenkkbcpafanaa.rights

theorem appendNum_at (B : Nat) (v : Value) (l : List UInt8) (n : Nat) (x : Int) (w0 w : World) (hx : x = (n : Int)) (hE : Ext B w0 w v l) (hB : B ≤ w.heap.size) (hn : n < 18446744073709551616) (hl : l.length + 20 ≤ 140737488355328) :
    Calls Try.prog 268 #[v, .int .u64 x] w fun e w' => ∃ v', e = .returned v' ∧ Ext B w0 w' v' (l ++ putL n) ∧ w.heap.size ≤ w'.heap.size := by
  subst hx; exact put.appendNum_any B v l n w0 w hE hB hn hl

/-- at the loop's head -/
def AHead (B : Nat) (W : World) (t : T) (l : List UInt8) (u i : Value) (wr : World) : Prop :=
  ∃ j : Nat, j ≤ t.l.length ∧ i = .int .i64 j ∧ W.heap.size ≤ wr.heap.size ∧ Ext B W wr u (l ++ encL (t.l.take j))

theorem shapedL_tk (l : List T) (j : Nat) (h : shapedL l = true) : shapedL (l.take j) = true := by
  induction l generalizing j with
  | nil => simp [shapedL]
  | cons t l ih =>
    cases j with
    | zero => simp [shapedL]
    | succ j =>
      simp only [shapedL, Bool.and_eq_true] at h
      simp [shapedL, h.1, ih j h.2]
theorem headlt {t : T} (h : t.one = true) (hn : 0 ≤ t.n ∧ t.n < 18446744073709551616) (hl : t.l.length ≤ 140737488355328) : t.head < 18446744073709551616 := by
  rw [head_eq]
  have hs : t.s.data.toList.length = t.s.size := by simp
  have := (one_kind h).2.2.1
  split
  · omega
  · split <;> omega
theorem wordL_tk (l : List T) (j : Nat) (h : wordL l) : wordL (l.take j) := by
  induction l generalizing j with
  | nil => simp [wordL]
  | cons t l ih =>
    cases j with
    | zero => simp [wordL]
    | succ j => exact ⟨h.1, ih j h.2⟩
mutual
theorem enc_len : ∀ (t : T), t.shaped = true → t.word → t.enc.length ≤ 4011 * t.size
  | .mk k n s l, h, hw => by
    have hs : (T.mk k n s l).one = true ∧ shapedL l = true := by rw [shaped_eq, Bool.and_eq_true] at h; exact h
    have h1 := (one_kind hs.1).2.2.1
    have h2 := encL_len l hs.2 hw.2
    have h3 : (T.mk k n s l).head < 18446744073709551616 := by
      have e0 : s.size ≤ 4000 := h1
      have e1 : s.data.toList.length = s.size := by simp
      have e2 := hw.1
      show (if k = 2 then s.data.toList.length else if k = 5 then l.length else n.toNat) < _
      split
      · omega
      · split <;> omega
    have h4 := putL_ten h3
    have e1 : (T.mk k n s l).s.data.toList.length = (T.mk k n s l).s.size := by simp
    have e2 : (T.mk k n s l).l = l := rfl
    rw [enc_eq, size_eq]
    simp only [List.length_cons, List.length_append, e1, e2]
    omega
theorem encL_len : ∀ (l : List T), shapedL l = true → wordL l → (encL l).length ≤ 4011 * sizeL l
  | [], _, _ => by simp [encL, sizeL]
  | t :: l, h, hw => by
    simp only [shapedL, Bool.and_eq_true] at h
    have h1 := enc_len t h.1 hw.1
    have h2 := encL_len l h.2 hw.2
    simp only [encL, sizeL, List.length_append]
    omega
end

set_option maxRecDepth 100000 in
set_option maxHeartbeats 800000 in
theorem append_any (N : Nat) : ∀ (t : T) (v u : Value) (l : List UInt8) (B : Nat) (w0 w : World), t.size ≤ N → t.shaped = true → Lies w B t v → B ≤ w.heap.size → Ext B w0 w u l → l.length + 4011 * t.size ≤ 1099511627776 →
    Calls Try.prog 256 #[u, T.val t v] w fun e w' => ∃ u', e = .returned u' ∧ Ext B w0 w' u' (l ++ t.enc) ∧ w.heap.size ≤ w'.heap.size := by
  induction N with
  | zero => intro t v u l B w0 w h; have := size_pos t; omega
  | succ N ih =>
    intro t v u l B w0 w hN hsh hL hB hE hlen
    obtain ⟨A, c, xs, rfl, hk, hn, hs, hlc, hc, hr, hl⟩ := hL.open_
    rw [shaped_eq, Bool.and_eq_true] at hsh
    obtain ⟨hone, hsl⟩ := hsh
    have HK := lay (one_kind hone)
    have hheadlt := headlt hone hn (by omega)
    have hk1 := HK.out.1
    have hk5 := HK.out.2.1
    have hs4 := HK.out.2.2.1
    have HS := lay (size_eq t)
    have HL := Lib.hid hsl
    have HWd := lay (LiesL.word _ _ hl)
    have hls : t.s.data.toList.length = t.s.size := by simp
    have hpt := putL_ten hheadlt
    have hlen2 : l.length + 4011 * sizeL t.l + 4011 ≤ 1099511627776 := by rw [size_eq] at hlen; omega
    clear hone hsl
    have hbox := Blk.new w 273 #[.int .i64 t.k, .int .u64 t.n, .string t.s, .slice A t.l.length c]
    have hE0 := (hE.alloc hB (.cells #[.int .i64 t.k, .int .u64 t.n, .string t.s, .slice A t.l.length c] 273)).refl
    have hl40 : l.length ≤ 1099511627776 := by omega
    by_cases h2 : t.k = 2
    · have k2 : (t.k == 2) = true := by simp [h2]
      have hhead : Hid ((t.s.size : Int) = (t.head : Int)) := lay (by rw [head_eq, if_pos h2, hls])
      have HLS := lay hls
      clear h2 hls
      go_enter Try.func256, Try.ntmps256
      go_wp2_with (at_builtin; refine wpList_append_u8 rfl _ _ rfl rfl hE0 (by simp; omega) _ (UInt8.ofNat t.k.toNat) ?c1 rfl (by simp) ?c2 ?next)
      case c1 => rw [ofNat_to (by omega)]; omega
      case c2 => omega
      case next =>
        intro v1 w1 hE1 hsz1
        have hb1 := hE1.kept _ _ _ (by decide) hbox
        have z0 := hb1.cell 0
        have z1 := hb1.cell 1
        have z2 := hb1.cell 2
        have z3 := hb1.cell 3
        simp at z0 z1 z2 z3 hsz1
        go_wp2_with (first | (go_at_call 268; refine (appendNum_at B _ _ t.head _ _ _ (by rw [hhead.out]) hE1 (by omega) hheadlt (by simp; omega)).mono ?_; rintro e w2 ⟨v2, rfl, hE2, hsz2⟩; have hb2 := hE2.kept _ _ _ (by decide) hbox; have y2 := hb2.cell 2; have y3 := hb2.cell 3; simp at y2 y3; clear z0 z1 z2 z3 hb1) | (at_builtin; refine wpList_append_str rfl _ _ rfl rfl hE2 (by omega) t.s rfl ?d2 ?next2))
        case d2 => simp; omega
        case next2 =>
          intro v3 w3 hE3 hsz3
          have hb3 := hE3.kept _ _ _ (by decide) hbox
          have x3 := hb3.cell 3
          simp at x3
          clear y2 y3 hb2 hb3
          go_wp2_with fail
          have H3 := lay hE3
          go_loopw [0, 42] (fun u i wr => AHead B (w.alloc (.cells #[.int .i64 t.k, .int .u64 t.n, .string t.s, .slice A t.l.length c] 273)) t (l ++ [UInt8.ofNat t.k.toNat] ++ putL t.head ++ t.s.data.toList) u i wr) (fun _ i _ => t.l.length - (intOf i).toNat)
          case atStart => exact ⟨0, Nat.zero_le _, rfl, by simp; omega, by simpa [encL] using hE3⟩
          case round =>
            obtain ⟨j, hj, rfl, hsz, hEj⟩ := hrel
            have hb := (Below.refl w.heap.size w).alloc (Nat.le_refl _) (.cells #[.int .i64 t.k, .int .u64 t.n, .string t.s, .slice A t.l.length c] 273)
            have hbj := hEj.below
            simp only [World.size_alloc] at hsz
            by_cases hlt : j < t.l.length
            · obtain ⟨b0, off, A', c', rfl, hbl, hv, c0, c1, c2, c3⟩ := at_cells ((hr.alloc hB _).below hbj) ((LiesL.keep (fun p hp => World.cell?_alloc_lt w _ p (by omega)) _ _ hl).below hbj) hlt
              have hg := size_get t.l j hlt
              have hel := encL_len (t.l.take j) (shapedL_tk t.l j HL.out) (wordL_tk t.l j HWd.out)
              have hsum := size_get t.l j hlt
              have hj1 := shapedL_at t.l j hlt HL.out
              have HJ := lay hj1
              clear hj1 hb hbj
              go_wp2_with (go_at_call 256; refine (ih t.l[j] _ _ _ B _ _ (by have := HS.out; omega) HJ.out (hv.alloc (by omega) _) (by simp; omega) (hEj.alloc (by omega) _) (by simp only [List.length_append, List.length_singleton]; have := HS.out; have := HLS.out; omega)).mono ?_; rintro e w4 ⟨v4, rfl, hE4, hsz4⟩)
              simp only [World.size_alloc] at hsz4
              exact ⟨⟨j + 1, hlt, by go_num, by simp; omega, by rw [encL_take _ _ hlt, ← List.append_assoc]; exact hE4⟩, by simp [intOf]; omega⟩
            · have hjl : t.l.take j = t.l := List.take_of_length_le (by omega)
              rw [hjl] at hEj
              go_wp2_with fail
              go_ret
              refine ⟨_, rfl, ?_, by omega⟩
              rw [enc_eq]
              have hfin := (hE.alloc hB _).trans hEj
              simpa [List.append_assoc] using hfin
    · have k2 : (t.k == 2) = false := by simp [h2]
      have HLS := lay hls
      clear hls
      by_cases h5 : t.k = 5
      · have k5 : (t.k == 5) = true := by simp [h5]
        have hhead : Hid ((t.l.length : Int) = (t.head : Int)) := lay (by rw [head_eq, if_neg h2, if_pos h5])
        clear h2 h5
        go_enter Try.func256, Try.ntmps256
        go_wp2_with (at_builtin; refine wpList_append_u8 rfl _ _ rfl rfl hE0 (by simp; omega) _ (UInt8.ofNat t.k.toNat) ?c1 rfl (by simp) ?c2 ?next)
        case c1 => rw [ofNat_to (by omega)]; omega
        case c2 => omega
        case next =>
          intro v1 w1 hE1 hsz1
          have hb1 := hE1.kept _ _ _ (by decide) hbox
          have z0 := hb1.cell 0
          have z1 := hb1.cell 1
          have z2 := hb1.cell 2
          have z3 := hb1.cell 3
          simp at z0 z1 z2 z3 hsz1
          go_wp2_with (first | (go_at_call 268; refine (appendNum_at B _ _ t.head _ _ _ (by rw [hhead.out]) hE1 (by omega) hheadlt (by simp; omega)).mono ?_; rintro e w2 ⟨v2, rfl, hE2, hsz2⟩; have hb2 := hE2.kept _ _ _ (by decide) hbox; have y2 := hb2.cell 2; have y3 := hb2.cell 3; simp at y2 y3; clear z0 z1 z2 z3 hb1) | (at_builtin; refine wpList_append_str rfl _ _ rfl rfl hE2 (by omega) t.s rfl ?d2 ?next2))
          case d2 => simp; omega
          case next2 =>
            intro v3 w3 hE3 hsz3
            have hb3 := hE3.kept _ _ _ (by decide) hbox
            have x3 := hb3.cell 3
            simp at x3
            clear y2 y3 hb2 hb3
            go_wp2_with fail
            have H3 := lay hE3
            go_loopw [0, 42] (fun u i wr => AHead B (w.alloc (.cells #[.int .i64 t.k, .int .u64 t.n, .string t.s, .slice A t.l.length c] 273)) t (l ++ [UInt8.ofNat t.k.toNat] ++ putL t.head ++ t.s.data.toList) u i wr) (fun _ i _ => t.l.length - (intOf i).toNat)
            case atStart => exact ⟨0, Nat.zero_le _, rfl, by simp; omega, by simpa [encL] using hE3⟩
            case round =>
              obtain ⟨j, hj, rfl, hsz, hEj⟩ := hrel
              have hb := (Below.refl w.heap.size w).alloc (Nat.le_refl _) (.cells #[.int .i64 t.k, .int .u64 t.n, .string t.s, .slice A t.l.length c] 273)
              have hbj := hEj.below
              simp only [World.size_alloc] at hsz
              by_cases hlt : j < t.l.length
              · obtain ⟨b0, off, A', c', rfl, hbl, hv, c0, c1, c2, c3⟩ := at_cells ((hr.alloc hB _).below hbj) ((LiesL.keep (fun p hp => World.cell?_alloc_lt w _ p (by omega)) _ _ hl).below hbj) hlt
                have hg := size_get t.l j hlt
                have hel := encL_len (t.l.take j) (shapedL_tk t.l j HL.out) (wordL_tk t.l j HWd.out)
                have hsum := size_get t.l j hlt
                have hj1 := shapedL_at t.l j hlt HL.out
                have HJ := lay hj1
                clear hj1 hb hbj
                go_wp2_with (go_at_call 256; refine (ih t.l[j] _ _ _ B _ _ (by have := HS.out; omega) HJ.out (hv.alloc (by omega) _) (by simp; omega) (hEj.alloc (by omega) _) (by simp only [List.length_append, List.length_singleton]; have := HS.out; have := HLS.out; omega)).mono ?_; rintro e w4 ⟨v4, rfl, hE4, hsz4⟩)
                simp only [World.size_alloc] at hsz4
                exact ⟨⟨j + 1, hlt, by go_num, by simp; omega, by rw [encL_take _ _ hlt, ← List.append_assoc]; exact hE4⟩, by simp [intOf]; omega⟩
              · have hjl : t.l.take j = t.l := List.take_of_length_le (by omega)
                rw [hjl] at hEj
                go_wp2_with fail
                go_ret
                refine ⟨_, rfl, ?_, by omega⟩
                rw [enc_eq]
                have hfin := (hE.alloc hB _).trans hEj
                simpa [List.append_assoc] using hfin
      · have k5 : (t.k == 5) = false := by simp [h5]
        have hhead : Hid (t.n = (t.head : Int)) := lay (by rw [head_eq, if_neg h2, if_neg h5]; omega)
        clear h2 h5
        go_enter Try.func256, Try.ntmps256
        go_wp2_with (at_builtin; refine wpList_append_u8 rfl _ _ rfl rfl hE0 (by simp; omega) _ (UInt8.ofNat t.k.toNat) ?c1 rfl (by simp) ?c2 ?next)
        case c1 => rw [ofNat_to (by omega)]; omega
        case c2 => omega
        case next =>
          intro v1 w1 hE1 hsz1
          have hb1 := hE1.kept _ _ _ (by decide) hbox
          have z0 := hb1.cell 0
          have z1 := hb1.cell 1
          have z2 := hb1.cell 2
          have z3 := hb1.cell 3
          simp at z0 z1 z2 z3 hsz1
          go_wp2_with (first | (go_at_call 268; refine (appendNum_at B _ _ t.head _ _ _ (by rw [hhead.out]) hE1 (by omega) hheadlt (by simp; omega)).mono ?_; rintro e w2 ⟨v2, rfl, hE2, hsz2⟩; have hb2 := hE2.kept _ _ _ (by decide) hbox; have y2 := hb2.cell 2; have y3 := hb2.cell 3; simp at y2 y3; clear z0 z1 z2 z3 hb1) | (at_builtin; refine wpList_append_str rfl _ _ rfl rfl hE2 (by omega) t.s rfl ?d2 ?next2))
          case d2 => simp; omega
          case next2 =>
            intro v3 w3 hE3 hsz3
            have hb3 := hE3.kept _ _ _ (by decide) hbox
            have x3 := hb3.cell 3
            simp at x3
            clear y2 y3 hb2 hb3
            go_wp2_with fail
            have H3 := lay hE3
            go_loopw [0, 42] (fun u i wr => AHead B (w.alloc (.cells #[.int .i64 t.k, .int .u64 t.n, .string t.s, .slice A t.l.length c] 273)) t (l ++ [UInt8.ofNat t.k.toNat] ++ putL t.head ++ t.s.data.toList) u i wr) (fun _ i _ => t.l.length - (intOf i).toNat)
            case atStart => exact ⟨0, Nat.zero_le _, rfl, by simp; omega, by simpa [encL] using hE3⟩
            case round =>
              obtain ⟨j, hj, rfl, hsz, hEj⟩ := hrel
              have hb := (Below.refl w.heap.size w).alloc (Nat.le_refl _) (.cells #[.int .i64 t.k, .int .u64 t.n, .string t.s, .slice A t.l.length c] 273)
              have hbj := hEj.below
              simp only [World.size_alloc] at hsz
              by_cases hlt : j < t.l.length
              · obtain ⟨b0, off, A', c', rfl, hbl, hv, c0, c1, c2, c3⟩ := at_cells ((hr.alloc hB _).below hbj) ((LiesL.keep (fun p hp => World.cell?_alloc_lt w _ p (by omega)) _ _ hl).below hbj) hlt
                have hg := size_get t.l j hlt
                have hel := encL_len (t.l.take j) (shapedL_tk t.l j HL.out) (wordL_tk t.l j HWd.out)
                have hsum := size_get t.l j hlt
                have hj1 := shapedL_at t.l j hlt HL.out
                have HJ := lay hj1
                clear hj1 hb hbj
                go_wp2_with (go_at_call 256; refine (ih t.l[j] _ _ _ B _ _ (by have := HS.out; omega) HJ.out (hv.alloc (by omega) _) (by simp; omega) (hEj.alloc (by omega) _) (by simp only [List.length_append, List.length_singleton]; have := HS.out; have := HLS.out; omega)).mono ?_; rintro e w4 ⟨v4, rfl, hE4, hsz4⟩)
                simp only [World.size_alloc] at hsz4
                exact ⟨⟨j + 1, hlt, by go_num, by simp; omega, by rw [encL_take _ _ hlt, ← List.append_assoc]; exact hE4⟩, by simp [intOf]; omega⟩
              · have hjl : t.l.take j = t.l := List.take_of_length_le (by omega)
                rw [hjl] at hEj
                go_wp2_with fail
                go_ret
                refine ⟨_, rfl, ?_, by omega⟩
                rw [enc_eq]
                have hfin := (hE.alloc hB _).trans hEj
                simpa [List.append_assoc] using hfin
end Go.Proofs.Ytoenkkbcpafanaa.encs
