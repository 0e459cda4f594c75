/- A term's bytes: the program's appendTerm, Encode and Size. -/
import Derived.Test.YtjlglfjikfpboaaTermB
import Derived.Test.YtjlglfjikfpboaaTermA
import Derived.Deep.RegionHeld3
import Derived.Maps.AppendAt
import Derived.Deep.AppendLies


namespace Go.Proofs.Ytjlglfjikfpboaa.encs
set_option linter.unusedVariables false
set_option linter.unusedSimpArgs false
open Go.RowKit Go.Proofs.Ytjlglfjikfpboaa.base Go.Proofs.Ytjlglfjikfpboaa.tm Go.Proofs.Ytjlglfjikfpboaa.bytes Go.Proofs.Ytjlglfjikfpboaa.lies Go.Proofs.Ytjlglfjikfpboaa.rights

theorem appendNum_at (B : Nat) (v : Value) (l : List UInt8) (n : Nat) (x : Int) (w0 w : World) (hx : x = (n : Int)) (hE : Ext B w0 w v l) (hB : B ≤ w.heap.size) (hn : n < 18446744073709551616) (hl : l.length + 20 ≤ 140737488355328) :
    Calls Try.prog 97 #[v, .int .u64 x] w fun e w' => ∃ v', e = .returned v' ∧ Ext B w0 w' v' (l ++ putL n) ∧ w.heap.size ≤ w'.heap.size := by
  subst hx; exact put.appendNum_any B v l n w0 w hE hB hn hl

/-- at the loop's head -/
def AHead (B : Nat) (W : World) (t : T) (l : List UInt8) (u i : Value) (wr : World) : Prop :=
  ∃ j : Nat, j ≤ t.l.length ∧ i = .int .i64 j ∧ W.heap.size ≤ wr.heap.size ∧ Ext B W wr u (l ++ encL (t.l.take j))

theorem shapedL_tk (l : List T) (j : Nat) (h : shapedL l = true) : shapedL (l.take j) = true := by
  induction l generalizing j with
  | nil => simp [shapedL]
  | cons t l ih =>
    cases j with
    | zero => simp [shapedL]
    | succ j =>
      simp only [shapedL, Bool.and_eq_true] at h
      simp [shapedL, h.1, ih j h.2]
theorem headlt {t : T} (h : t.one = true) (hn : 0 ≤ t.n ∧ t.n < 18446744073709551616) (hl : t.l.length ≤ 140737488355328) : t.head < 18446744073709551616 := by
  rw [head_eq]
  have hs : t.s.data.toList.length = t.s.size := by simp
  have := (one_kind h).2.2.1
  split
  · omega
  · split <;> omega
theorem wordL_tk (l : List T) (j : Nat) (h : wordL l) : wordL (l.take j) := by
  induction l generalizing j with
  | nil => simp [wordL]
  | cons t l ih =>
    cases j with
    | zero => simp [wordL]
    | succ j => exact ⟨h.1, ih j h.2⟩
mutual
theorem enc_len : ∀ (t : T), t.shaped = true → t.word → t.enc.length ≤ 4011 * t.size
  | .mk k n s l, h, hw => by
    have hs : (T.mk k n s l).one = true ∧ shapedL l = true := by rw [shaped_eq, Bool.and_eq_true] at h; exact h
    have h1 := (one_kind hs.1).2.2.1
    have h2 := encL_len l hs.2 hw.2
    have h3 : (T.mk k n s l).head < 18446744073709551616 := by
      have e0 : s.size ≤ 4000 := h1
      have e1 : s.data.toList.length = s.size := by simp
      have e2 := hw.1
      show (if k = 2 then s.data.toList.length else if k = 5 then l.length else n.toNat) < _
      split
      · omega
      · split <;> omega
    have h4 := putL_ten h3
    have e1 : (T.mk k n s l).s.data.toList.length = (T.mk k n s l).s.size := by simp
    have e2 : (T.mk k n s l).l = l := rfl
    rw [enc_eq, size_eq]
    simp only [List.length_cons, List.length_append, e1, e2]
    omega
theorem encL_len : ∀ (l : List T), shapedL l = true → wordL l → (encL l).length ≤ 4011 * sizeL l
  | [], _, _ => by simp [encL, sizeL]
  | t :: l, h, hw => by
    simp only [shapedL, Bool.and_eq_true] at h
    have h1 := enc_len t h.1 hw.1
    have h2 := encL_len l h.2 hw.2
    simp only [encL, sizeL, List.length_append]
    omega
end

set_option maxRecDepth 100000 in
set_option maxHeartbeats 800000 in
theorem append_any (N : Nat) : ∀ (t : T) (v u : Value) (l : List UInt8) (B : Nat) (w0 w : World), t.size ≤ N → t.shaped = true → Lies w B t v → B ≤ w.heap.size → Ext B w0 w u l → l.length + 4011 * t.size ≤ 1099511627776 →
    Calls Try.prog 62 #[u, T.val t v] w fun e w' => ∃ u', e = .returned u' ∧ Ext B w0 w' u' (l ++ t.enc) ∧ w.heap.size ≤ w'.heap.size := by
  induction N with
  | zero => intro t v u l B w0 w h; have := size_pos t; omega
  | succ N ih =>
    intro t v u l B w0 w hN hsh hL hB hE hlen
    obtain ⟨A, c, xs, rfl, hk, hn, hs, hlc, hc, hr, hl⟩ := hL.open_
    rw [shaped_eq, Bool.and_eq_true] at hsh
    obtain ⟨hone, hsl⟩ := hsh
    have HK := lay (one_kind hone)
    have hheadlt := headlt hone hn (by omega)
    have hk1 := HK.out.1
    have hk5 := HK.out.2.1
    have hs4 := HK.out.2.2.1
    have HS := lay (size_eq t)
    have HL := Lib.hid hsl
    have HWd := lay (LiesL.word _ _ hl)
    have hls : t.s.data.toList.length = t.s.size := by simp
    have hpt := putL_ten hheadlt
    have hlen2 : l.length + 4011 * sizeL t.l + 4011 ≤ 1099511627776 := by rw [size_eq] at hlen; omega
    clear hone hsl
    have hbox := Blk.new w 39 #[.int .i64 t.k, .int .u64 t.n, .string t.s, .slice A t.l.length c]
    have hE0 := (hE.alloc hB (.cells #[.int .i64 t.k, .int .u64 t.n, .string t.s, .slice A t.l.length c] 39)).refl
    have hl40 : l.length ≤ 1099511627776 := by omega
    by_cases h2 : t.k = 2
    · have k2 : (t.k == 2) = true := by simp [h2]
      have hhead : Hid ((t.s.size : Int) = (t.head : Int)) := lay (by rw [head_eq, if_pos h2, hls])
      have HLS := lay hls
      clear h2 hls
      go_enter Try.func62, Try.ntmps62
      go_wp2_with (at_builtin; refine wpList_append_u8 rfl _ _ rfl rfl hE0 (by simp; omega) _ (UInt8.ofNat t.k.toNat) ?c1 rfl (by simp) ?c2 ?next)
      case c1 => rw [ofNat_to (by omega)]; omega
      case c2 => omega
      case next =>
        intro v1 w1 hE1 hsz1
        have hb1 := hE1.kept _ _ _ (by decide) hbox
        have z0 := hb1.cell 0
        have z1 := hb1.cell 1
        have z2 := hb1.cell 2
        have z3 := hb1.cell 3
        simp at z0 z1 z2 z3 hsz1
        go_wp2_with (first | (go_at_call 97; refine (appendNum_at B _ _ t.head _ _ _ (by rw [hhead.out]) hE1 (by omega) hheadlt (by simp; omega)).mono ?_; rintro e w2 ⟨v2, rfl, hE2, hsz2⟩; have hb2 := hE2.kept _ _ _ (by decide) hbox; have y2 := hb2.cell 2; have y3 := hb2.cell 3; simp at y2 y3; clear z0 z1 z2 z3 hb1) | (at_builtin; refine wpList_append_str rfl _ _ rfl rfl hE2 (by omega) t.s rfl ?d2 ?next2))
        case d2 => simp; omega
        case next2 =>
          intro v3 w3 hE3 hsz3
          have hb3 := hE3.kept _ _ _ (by decide) hbox
          have x3 := hb3.cell 3
          simp at x3
          clear y2 y3 hb2 hb3
          go_wp2_with fail
          have H3 := lay hE3
          go_loopw [0, 42] (fun u i wr => AHead B (w.alloc (.cells #[.int .i64 t.k, .int .u64 t.n, .string t.s, .slice A t.l.length c] 39)) t (l ++ [UInt8.ofNat t.k.toNat] ++ putL t.head ++ t.s.data.toList) u i wr) (fun _ i _ => t.l.length - (intOf i).toNat)
          case atStart => exact ⟨0, Nat.zero_le _, rfl, by simp; omega, by simpa [encL] using hE3⟩
          case round =>
            obtain ⟨j, hj, rfl, hsz, hEj⟩ := hrel
            have hb := (Below.refl w.heap.size w).alloc (Nat.le_refl _) (.cells #[.int .i64 t.k, .int .u64 t.n, .string t.s, .slice A t.l.length c] 39)
            have hbj := hEj.below
            simp only [World.size_alloc] at hsz
            by_cases hlt : j < t.l.length
            · obtain ⟨b0, off, A', c', rfl, hbl, hv, c0, c1, c2, c3⟩ := at_cells ((hr.alloc hB _).below hbj) ((LiesL.keep (fun p hp => World.cell?_alloc_lt w _ p (by omega)) _ _ hl).below hbj) hlt
              have hg := size_get t.l j hlt
              have hel := encL_len (t.l.take j) (shapedL_tk t.l j HL.out) (wordL_tk t.l j HWd.out)
              have hsum := size_get t.l j hlt
              have hj1 := shapedL_at t.l j hlt HL.out
              have HJ := lay hj1
              clear hj1 hb hbj
              go_wp2_with (go_at_call 62; refine (ih t.l[j] _ _ _ B _ _ (by have := HS.out; omega) HJ.out (hv.alloc (by omega) _) (by simp; omega) (hEj.alloc (by omega) _) (by simp only [List.length_append, List.length_singleton]; have := HS.out; have := HLS.out; omega)).mono ?_; rintro e w4 ⟨v4, rfl, hE4, hsz4⟩)
              simp only [World.size_alloc] at hsz4
              exact ⟨⟨j + 1, hlt, by go_num, by simp; omega, by rw [encL_take _ _ hlt, ← List.append_assoc]; exact hE4⟩, by simp [intOf]; omega⟩
            · have hjl : t.l.take j = t.l := List.take_of_length_le (by omega)
              rw [hjl] at hEj
              go_wp2_with fail
              go_ret
              refine ⟨_, rfl, ?_, by omega⟩
              rw [enc_eq]
              have hfin := (hE.alloc hB _).trans hEj
              simpa [List.append_assoc] using hfin
    · have k2 : (t.k == 2) = false := by simp [h2]
      have HLS := lay hls
      clear hls
      by_cases h5 : t.k = 5
      · have k5 : (t.k == 5) = true := by simp [h5]
        have hhead : Hid ((t.l.length : Int) = (t.head : Int)) := lay (by rw [head_eq, if_neg h2, if_pos h5])
        clear h2 h5
        go_enter Try.func62, Try.ntmps62
        go_wp2_with (at_builtin; refine wpList_append_u8 rfl _ _ rfl rfl hE0 (by simp; omega) _ (UInt8.ofNat t.k.toNat) ?c1 rfl (by simp) ?c2 ?next)
        case c1 => rw [ofNat_to (by omega)]; omega
        case c2 => omega
        case next =>
          intro v1 w1 hE1 hsz1
          have hb1 := hE1.kept _ _ _ (by decide) hbox
          have z0 := hb1.cell 0
          have z1 := hb1.cell 1
          have z2 := hb1.cell 2
          have z3 := hb1.cell 3
          simp at z0 z1 z2 z3 hsz1
          go_wp2_with (first | (go_at_call 97; refine (appendNum_at B _ _ t.head _ _ _ (by rw [hhead.out]) hE1 (by omega) hheadlt (by simp; omega)).mono ?_; rintro e w2 ⟨v2, rfl, hE2, hsz2⟩; have hb2 := hE2.kept _ _ _ (by decide) hbox; have y2 := hb2.cell 2; have y3 := hb2.cell 3; simp at y2 y3; clear z0 z1 z2 z3 hb1) | (at_builtin; refine wpList_append_str rfl _ _ rfl rfl hE2 (by omega) t.s rfl ?d2 ?next2))
          case d2 => simp; omega
          case next2 =>
            intro v3 w3 hE3 hsz3
            have hb3 := hE3.kept _ _ _ (by decide) hbox
            have x3 := hb3.cell 3
            simp at x3
            clear y2 y3 hb2 hb3
            go_wp2_with fail
            have H3 := lay hE3
            go_loopw [0, 42] (fun u i wr => AHead B (w.alloc (.cells #[.int .i64 t.k, .int .u64 t.n, .string t.s, .slice A t.l.length c] 39)) t (l ++ [UInt8.ofNat t.k.toNat] ++ putL t.head ++ t.s.data.toList) u i wr) (fun _ i _ => t.l.length - (intOf i).toNat)
            case atStart => exact ⟨0, Nat.zero_le _, rfl, by simp; omega, by simpa [encL] using hE3⟩
            case round =>
              obtain ⟨j, hj, rfl, hsz, hEj⟩ := hrel
              have hb := (Below.refl w.heap.size w).alloc (Nat.le_refl _) (.cells #[.int .i64 t.k, .int .u64 t.n, .string t.s, .slice A t.l.length c] 39)
              have hbj := hEj.below
              simp only [World.size_alloc] at hsz
              by_cases hlt : j < t.l.length
              · obtain ⟨b0, off, A', c', rfl, hbl, hv, c0, c1, c2, c3⟩ := at_cells ((hr.alloc hB _).below hbj) ((LiesL.keep (fun p hp => World.cell?_alloc_lt w _ p (by omega)) _ _ hl).below hbj) hlt
                have hg := size_get t.l j hlt
                have hel := encL_len (t.l.take j) (shapedL_tk t.l j HL.out) (wordL_tk t.l j HWd.out)
                have hsum := size_get t.l j hlt
                have hj1 := shapedL_at t.l j hlt HL.out
                have HJ := lay hj1
                clear hj1 hb hbj
                go_wp2_with (go_at_call 62; refine (ih t.l[j] _ _ _ B _ _ (by have := HS.out; omega) HJ.out (hv.alloc (by omega) _) (by simp; omega) (hEj.alloc (by omega) _) (by simp only [List.length_append, List.length_singleton]; have := HS.out; have := HLS.out; omega)).mono ?_; rintro e w4 ⟨v4, rfl, hE4, hsz4⟩)
                simp only [World.size_alloc] at hsz4
                exact ⟨⟨j + 1, hlt, by go_num, by simp; omega, by rw [encL_take _ _ hlt, ← List.append_assoc]; exact hE4⟩, by simp [intOf]; omega⟩
              · have hjl : t.l.take j = t.l := List.take_of_length_le (by omega)
                rw [hjl] at hEj
                go_wp2_with fail
                go_ret
                refine ⟨_, rfl, ?_, by omega⟩
                rw [enc_eq]
                have hfin := (hE.alloc hB _).trans hEj
                simpa [List.append_assoc] using hfin
      · have k5 : (t.k == 5) = false := by simp [h5]
        have hhead : Hid (t.n = (t.head : Int)) := lay (by rw [head_eq, if_neg h2, if_neg h5]; omega)
        clear h2 h5
        go_enter Try.func62, Try.ntmps62
        go_wp2_with (at_builtin; refine wpList_append_u8 rfl _ _ rfl rfl hE0 (by simp; omega) _ (UInt8.ofNat t.k.toNat) ?c1 rfl (by simp) ?c2 ?next)
        case c1 => rw [ofNat_to (by omega)]; omega
        case c2 => omega
        case next =>
          intro v1 w1 hE1 hsz1
          have hb1 := hE1.kept _ _ _ (by decide) hbox
          have z0 := hb1.cell 0
          have z1 := hb1.cell 1
          have z2 := hb1.cell 2
          have z3 := hb1.cell 3
          simp at z0 z1 z2 z3 hsz1
          go_wp2_with (first | (go_at_call 97; refine (appendNum_at B _ _ t.head _ _ _ (by rw [hhead.out]) hE1 (by omega) hheadlt (by simp; omega)).mono ?_; rintro e w2 ⟨v2, rfl, hE2, hsz2⟩; have hb2 := hE2.kept _ _ _ (by decide) hbox; have y2 := hb2.cell 2; have y3 := hb2.cell 3; simp at y2 y3; clear z0 z1 z2 z3 hb1) | (at_builtin; refine wpList_append_str rfl _ _ rfl rfl hE2 (by omega) t.s rfl ?d2 ?next2))
          case d2 => simp; omega
          case next2 =>
            intro v3 w3 hE3 hsz3
            have hb3 := hE3.kept _ _ _ (by decide) hbox
            have x3 := hb3.cell 3
            simp at x3
            clear y2 y3 hb2 hb3
            go_wp2_with fail
            have H3 := lay hE3
            go_loopw [0, 42] (fun u i wr => AHead B (w.alloc (.cells #[.int .i64 t.k, .int .u64 t.n, .string t.s, .slice A t.l.length c] 39)) t (l ++ [UInt8.ofNat t.k.toNat] ++ putL t.head ++ t.s.data.toList) u i wr) (fun _ i _ => t.l.length - (intOf i).toNat)
            case atStart => exact ⟨0, Nat.zero_le _, rfl, by simp; omega, by simpa [encL] using hE3⟩
            case round =>
              obtain ⟨j, hj, rfl, hsz, hEj⟩ := hrel
              have hb := (Below.refl w.heap.size w).alloc (Nat.le_refl _) (.cells #[.int .i64 t.k, .int .u64 t.n, .string t.s, .slice A t.l.length c] 39)
              have hbj := hEj.below
              simp only [World.size_alloc] at hsz
              by_cases hlt : j < t.l.length
              · obtain ⟨b0, off, A', c', rfl, hbl, hv, c0, c1, c2, c3⟩ := at_cells ((hr.alloc hB _).below hbj) ((LiesL.keep (fun p hp => World.cell?_alloc_lt w _ p (by omega)) _ _ hl).below hbj) hlt
                have hg := size_get t.l j hlt
                have hel := encL_len (t.l.take j) (shapedL_tk t.l j HL.out) (wordL_tk t.l j HWd.out)
                have hsum := size_get t.l j hlt
                have hj1 := shapedL_at t.l j hlt HL.out
                have HJ := lay hj1
                clear hj1 hb hbj
                go_wp2_with (go_at_call 62; refine (ih t.l[j] _ _ _ B _ _ (by have := HS.out; omega) HJ.out (hv.alloc (by omega) _) (by simp; omega) (hEj.alloc (by omega) _) (by simp only [List.length_append, List.length_singleton]; have := HS.out; have := HLS.out; omega)).mono ?_; rintro e w4 ⟨v4, rfl, hE4, hsz4⟩)
                simp only [World.size_alloc] at hsz4
                exact ⟨⟨j + 1, hlt, by go_num, by simp; omega, by rw [encL_take _ _ hlt, ← List.append_assoc]; exact hE4⟩, by simp [intOf]; omega⟩
              · have hjl : t.l.take j = t.l := List.take_of_length_le (by omega)
                rw [hjl] at hEj
                go_wp2_with fail
                go_ret
                refine ⟨_, rfl, ?_, by omega⟩
                rw [enc_eq]
                have hfin := (hE.alloc hB _).trans hEj
                simpa [List.append_assoc] using hfin
end Go.Proofs.Ytjlglfjikfpboaa.encs

/- Encode and Size; the document's own Bytes and Encode. -/

namespace Go.Proofs.Ytjlglfjikfpboaa.encs
set_option linter.unusedVariables false
set_option linter.unusedSimpArgs false
open Go.RowKit Go.Proofs.Ytjlglfjikfpboaa.base Go.Proofs.Ytjlglfjikfpboaa.tm Go.Proofs.Ytjlglfjikfpboaa.bytes Go.Proofs.Ytjlglfjikfpboaa.lies Go.Proofs.Ytjlglfjikfpboaa.rights

theorem right_ok {t : T} (h : t.right = 0) : t.size ≤ 4000 ∧ t.deep ≤ 12 ∧ t.shaped = true := by
  unfold T.right at h
  split at h
  · cases h
  · split at h
    · cases h
    · split at h
      · refine ⟨by omega, by omega, by assumption⟩
      · cases h
theorem ok_right {t : T} (h1 : t.size ≤ 4000) (h2 : t.deep ≤ 12) (h3 : t.shaped = true) : t.right = 0 := by
  unfold T.right
  rw [if_neg (by omega), if_neg (by omega), if_pos h3]

set_option maxRecDepth 100000 in
theorem encode_ok (t : T) (v : Value) (w : World) (hL : Lies w w.heap.size t v) (hR : t.right = 0) :
    Calls Try.prog 24 #[T.val t v] w fun e w' => e = .returned (.tuple #[.string ⟨t.enc.toArray⟩, .int .i64 0]) ∧ Below w.heap.size w w' := by
  obtain ⟨A, c, xs, rfl, hk, hn, hs, hlc, hc, hr, hl⟩ := hL.open_
  obtain ⟨r1, r2, r3⟩ := right_ok hR
  have h1 := fun wx (hx : Lies wx wx.heap.size t (.slice A t.l.length c)) => adds.right_any t _ wx hx
  rw [hR] at h1
  have hL1 := hL.later (Nat.le_refl _) (.cells #[.int .i64 t.k, .int .u64 t.n, .string t.s, .slice A t.l.length c] 39)
  have h2 := fun wx (hx : Lies wx w.heap.size t (.slice A t.l.length c)) (hB : w.heap.size ≤ wx.heap.size) => append_any t.size t _ _ [] w.heap.size wx wx (Nat.le_refl _) r3 hx hB (Ext.nil wx _) (by simp; omega)
  have hLa := hL.alloc (Nat.le_refl _) (.cells #[.int .i64 t.k, .int .u64 t.n, .string t.s, .slice A t.l.length c] 39)
  clear hR
  go_enter Try.func24, Try.ntmps24
  go_wp2_with (first
    | (go_at_call 61; refine (h1 _ hL1).mono ?_; rintro e w1 ⟨rfl, hb1⟩; obtain ⟨hc1, hf1⟩ := bcell hb1; have hz1 : w.heap.size < w1.heap.size := by have := hb1.size; simp at this; omega)
    | (go_at_call 62; refine (h2 _ (hLa.below (hb1.mono (by simp))) (by omega)).mono ?_; rintro e w2 ⟨v2, rfl, hE, hz2⟩; have hcv := hE.string))
  go_ret2
  exact ⟨rfl, (below_call (Below.refl _ _) hb1).trans hE.below⟩

set_option maxRecDepth 100000 in
theorem encode_bad (t : T) (v : Value) (w : World) (hL : Lies w w.heap.size t v) (hR : t.right ≠ 0) :
    Calls Try.prog 24 #[T.val t v] w fun e w' => e = .returned (.tuple #[.string ⟨#[]⟩, .int .i64 t.right]) ∧ Below w.heap.size w w' := by
  obtain ⟨A, c, xs, rfl, hk, hn, hs, hlc, hc, hr, hl⟩ := hL.open_
  have h1 := fun wx (hx : Lies wx wx.heap.size t (.slice A t.l.length c)) => adds.right_any t _ wx hx
  have hL1 := hL.later (Nat.le_refl _) (.cells #[.int .i64 t.k, .int .u64 t.n, .string t.s, .slice A t.l.length c] 39)
  have d1 : (t.right != 0) = true := by simpa using hR
  clear hR
  go_enter Try.func24, Try.ntmps24
  go_wp2_with (go_at_call 61; refine (h1 _ hL1).mono ?_; rintro e w1 ⟨rfl, hb1⟩)
  go_ret2
  exact ⟨rfl, below_call (Below.refl _ _) hb1⟩

/-- what Encode answers -/
def encVal (t : T) : Value := if t.right = 0 then .tuple #[.string ⟨t.enc.toArray⟩, .int .i64 0] else .tuple #[.string ⟨#[]⟩, .int .i64 t.right]

end Go.Proofs.Ytjlglfjikfpboaa.encs

/- A term's bytes, the document's own: Bytes, Encode. -/

namespace Go.Proofs.Ytjlglfjikfpboaa.refEncs
set_option linter.unusedVariables false
set_option linter.unusedSimpArgs false
open Go.RowKit Go.Proofs.Ytjlglfjikfpboaa.base Go.Proofs.Ytjlglfjikfpboaa.tm Go.Proofs.Ytjlglfjikfpboaa.bytes Go.Proofs.Ytjlglfjikfpboaa.lies Go.Proofs.Ytjlglfjikfpboaa.rights Go.Proofs.Ytjlglfjikfpboaa.encs

/-- at the loop's head -/
def BHead (W : World) (t : T) (l : List UInt8) (u i : Value) (wr : World) : Prop :=
  ∃ (j : Nat) (x : ByteArray), j ≤ t.l.length ∧ i = .int .i64 j ∧ u = .string x ∧ Hid (x.data.toList = l ++ encL (t.l.take j)) ∧ x.size ≤ 16044000 ∧ Below W.heap.size W wr

theorem bhead_next {W wr : World} {t : T} {b : UInt8} {l : List UInt8} {x : ByteArray} {j : Nat} (hj : j < t.l.length) (hz : t.size = sizeL t.l + 1) (hsh : shapedL t.l = true) (hw : wordL t.l) (hl : l.length ≤ 10) (hs : t.s.size ≤ 4000) (h4 : t.size ≤ 4000)
    (hx : x.data.toList = (b :: (l ++ t.s.data.toList)) ++ encL (t.l.take j)) (hb : Below W.heap.size W wr) : BHead W t (b :: (l ++ t.s.data.toList)) (.string (x ++ ⟨t.l[j].enc.toArray⟩)) (.int .i64 ((j : Int) + 1)) wr := by
  have e : (x ++ ⟨t.l[j].enc.toArray⟩).data.toList = (b :: (l ++ t.s.data.toList)) ++ encL (t.l.take (j + 1)) := by
    rw [encL_take _ _ hj, ← List.append_assoc, ← hx]; simp
  refine ⟨j + 1, _, hj, by go_num, rfl, lay e, ?_, hb⟩
  have h1 := congrArg List.length e
  have h2 := encL_len _ (shapedL_tk t.l (j + 1) hsh) (wordL_tk t.l (j + 1) hw)
  have h3 := sizeL_le t.l (j + 1)
  have h5 : t.s.data.toList.length = t.s.size := by simp
  have h6 : (x ++ ⟨t.l[j].enc.toArray⟩).data.toList.length = (x ++ ⟨t.l[j].enc.toArray⟩).size := Array.length_toList
  rw [h6] at h1
  simp only [List.length_append, List.length_cons, h5] at h1
  omega
theorem ret_str {l : List UInt8} {x : ByteArray} (h : x.data.toList = l) : Ending.returned (.string x) = .returned (.string ⟨l.toArray⟩) := by
  subst h; rfl
theorem add1 (b : UInt8) (l : List UInt8) (h : l.length ≤ 10) (w : World) : (Op.stringOp .add ⟨#[b]⟩ ⟨l.toArray⟩).run Try.prog w = .ok (.string (⟨#[b]⟩ ++ ⟨l.toArray⟩)) w :=
  run_string_add_sum w _ _ (by show 1 + l.length ≤ _; omega)
theorem add2 (b : UInt8) (l : List UInt8) (s : ByteArray) (h : l.length ≤ 10) (hs : s.size ≤ 4000) (w : World) : (Op.stringOp .add (⟨#[b]⟩ ++ ⟨l.toArray⟩) s).run Try.prog w = .ok (.string (⟨#[b]⟩ ++ ⟨l.toArray⟩ ++ s)) w :=
  run_string_add_sum w _ _ (by rw [ByteArray.size_append]; show 1 + l.length + s.size ≤ _; omega)
theorem start_three (b : UInt8) (l : List UInt8) (s : ByteArray) : ((⟨#[b]⟩ : ByteArray) ++ ⟨l.toArray⟩ ++ s).data.toList = b :: (l ++ s.data.toList) := by simp
theorem size_three (b : UInt8) (l : List UInt8) (s : ByteArray) (h : l.length ≤ 10) (hs : s.size ≤ 4000) : ((⟨#[b]⟩ : ByteArray) ++ ⟨l.toArray⟩ ++ s).size ≤ 16044000 := by
  rw [ByteArray.size_append, ByteArray.size_append]; show 1 + l.length + s.size ≤ _; omega
theorem start_two (b : UInt8) (l : List UInt8) (s : ByteArray) (hs : s.data.toList = []) : ((⟨#[b]⟩ : ByteArray) ++ ⟨l.toArray⟩).data.toList = b :: (l ++ s.data.toList) := by simp [hs]
theorem size_two (b : UInt8) (l : List UInt8) (h : l.length ≤ 10) : ((⟨#[b]⟩ : ByteArray) ++ ⟨l.toArray⟩).size ≤ 16044000 := by
  rw [ByteArray.size_append]; show 1 + l.length ≤ _; omega
theorem conv_one (w : World) (g : Nat) (hg : g = w.heap.size) (x : Int) (h1 : 0 ≤ x) (h2 : x < 256) :
    (Go.convert 55 9 (.slice (some ⟨g, 0, none⟩) 1 1)).run Try.prog (w.alloc (.cells #[.int .u8 x] 5)) = .ok (.string ⟨#[UInt8.ofNat x.toNat]⟩) (w.alloc (.cells #[.int .u8 x] 5)) := by
  subst hg
  have h := run_convert_bytes_back (P := Try.prog) (w.alloc (.cells #[.int .u8 x] 5)) 55 9 5 ⟨w.heap.size, 0, none⟩ 1 [UInt8.ofNat x.toNat] Try.underlying55 Try.underlying5 Try.underlying9 (fun j hj => by
    obtain rfl : j = 0 := by simpa using hj
    have hx : ((UInt8.ofNat x.toNat).toNat : Int) = x := by rw [ofNat_to (by omega)]; omega
    simp only [List.getElem_cons_zero, hx]
    have := (Blk.new w 5 #[.int .u8 x]).cell 0
    rw [show (⟨w.heap.size, 0, none⟩ : Addr).add 0 = ⟨w.heap.size, 0, none⟩ from rfl]; exact this)
  exact h

theorem below_own {w w2 : World} {o o' : Obj} (hb : Below ((w.alloc o).alloc o').heap.size ((w.alloc o).alloc o') w2) : Below w.heap.size w w2 :=
  (((Below.refl _ _).alloc (Nat.le_refl _) o).alloc (by simp) o').trans (hb.mono (by simp; omega))
theorem below_own' {w w2 : World} {o o' : Obj} (hb : Below ((w.alloc o).alloc o').drew.heap.size ((w.alloc o).alloc o').drew w2) : Below w.heap.size w w2 :=
  (((Below.refl _ _).alloc (Nat.le_refl _) o).alloc (by simp) o').drew.trans (hb.mono (by simp; omega))

set_option maxRecDepth 100000 in
set_option maxHeartbeats 400000 in
theorem bytes_any (N : Nat) : ∀ (t : T) (v : Value) (w : World), t.size ≤ N → t.size ≤ 4000 → t.shaped = true → Lies w w.heap.size t v →
    Calls Try.prog 63 #[T.val t v] w fun e w' => e = .returned (.string ⟨t.enc.toArray⟩) ∧ Below w.heap.size w w' := by
  induction N with
  | zero => intro t v w h; have := size_pos t; omega
  | succ N ih =>
    intro t v w hN h4000 hsh hL
    obtain ⟨A, c, xs, rfl, hk, hn, hs, hlc, hc, hr, hl⟩ := hL.open_
    rw [shaped_eq, Bool.and_eq_true] at hsh
    obtain ⟨hone, hsl⟩ := hsh
    have HK := lay (one_kind hone)
    have hheadlt := headlt hone hn (by omega)
    have hk1 := HK.out.1
    have hk5 := HK.out.2.1
    have hs4 := HK.out.2.2.1
    have hpt := putL_ten hheadlt
    have HS := lay (size_eq t)
    have HL := Lib.hid hsl
    have HWd := lay (LiesL.word _ _ hl)
    have HLS := lay (show t.s.data.toList.length = t.s.size by simp)
    have hput : ∀ (x : Int) (wx : World), x = (t.head : Int) → Calls Try.prog 98 #[.int .u64 x] wx fun e w' => e = .returned (.string ⟨(putL t.head).toArray⟩) ∧ Below wx.heap.size wx w' := fun x wx hx => by subst hx; exact put.refPutNum_any t.head wx hheadlt
    have hcv := conv_one (w.alloc (.cells #[.int .i64 t.k, .int .u64 t.n, .string t.s, .slice A t.l.length c] 39)) (w.heap.size + 1) (by simp) t.k (by omega) (by omega)
    have HP := Lib.hid hput
    clear hput
    clear hone hsl
    by_cases h2 : t.k = 2
    · have k2 : (t.k == 2) = true := by simp [h2]
      have k1 : (t.k == 1) = false := by simp [h2]
      have k3 : (t.k == 3) = false := by simp [h2]
      have k4 : (t.k == 4) = false := by simp [h2]
      have hhead : Hid ((t.s.size : Int) = (t.head : Int)) := lay (by rw [head_eq, if_pos h2, HLS.out])
      clear h2
      go_enter Try.func63, Try.ntmps63
      go_wp2_with fail
      clear hcv
      have hq1 := add1 (UInt8.ofNat t.k.toNat) (putL t.head) hpt.2
      have hq2 := add2 (UInt8.ofNat t.k.toNat) (putL t.head) t.s hpt.2 hs4
      have hw64 : IntKind.u64.wrap (t.s.size : Int) = (t.s.size : Int) := by rw [IntKind.wrap_u64]; omega
      go_region_held3 (fun w' => w'.cell? ⟨w.heap.size, 2, none⟩ = some (.string t.s) ∧ w'.cell? ⟨w.heap.size, 3, none⟩ = some (.slice A t.l.length c)) (first | go_keep | (go_split_ands; refine ⟨?_, ?_⟩ <;> (rw [hc2 _ _ (by simp; omega)]; assumption)) | (go_split_ands; refine ⟨?_, ?_⟩ <;> (rw [hc2 _ _ (by simp; omega)]; simp)))
        ((go_at_call 98; refine (HP.out _ _ hhead.out).mono ?_; rintro e w2 ⟨rfl, hb2⟩; obtain ⟨hc2, hf2⟩ := bcell hb2))
      clear hw64 hq1 hq2
      go_wp2_with fail
      have hb0 := below_own' hb2
      clear hc2 hf2 hb2
      go_loopw [3, 47] (fun u i wr => BHead w t (UInt8.ofNat t.k.toNat :: (putL t.head ++ t.s.data.toList)) u i wr) (fun _ i _ => t.l.length - (intOf i).toNat)
      case atStart => exact ⟨0, _, Nat.zero_le _, rfl, rfl, lay (by rw [start_three]; simp [encL]), size_three _ _ _ hpt.2 hs4, hb0⟩
      case round =>
        obtain ⟨j, x, hj, rfl, rfl, hxl, hxs, hb⟩ := hrel
        by_cases hlt : j < t.l.length
        · obtain ⟨b0, off, A', c', rfl, hbl, hv, c0, c1, c2, c3⟩ := at_cells (hr.below hb) (hl.below hb) hlt
          have hg := size_get t.l j hlt
          have HJ := lay (shapedL_at t.l j hlt HL.out)
          have hel := enc_len t.l[j] HJ.out (Lies.word _ _ hv)
          have hz := HS.out
          have hel2 : t.l[j].enc.length ≤ 16044000 := by omega
          have hj4 : t.l[j].size ≤ 4000 := by omega
          have hjN : t.l[j].size ≤ N := by omega
          clear hz
          go_wp2_with (go_at_call 63; refine (ih t.l[j] _ _ hjN hj4 HJ.out (hv.later hb.size _)).mono ?_; rintro e w4 ⟨rfl, hb4⟩)
          exact ⟨bhead_next hlt HS.out HL.out HWd.out hpt.2 hs4 h4000 hxl.out (below_call hb hb4), by simp [intOf]; omega⟩
        · have hjl : t.l.take j = t.l := List.take_of_length_le (by omega)
          rw [hjl] at hxl
          go_wp2_with fail
          go_ret
          exact ⟨ret_str (by rw [hxl.out, enc_eq]; simp), hb⟩
    · have k2 : (t.k == 2) = false := by simp [h2]
      have HSN := lay (HK.out.2.2.2.1 h2)
      by_cases h1 : t.k = 1
      · have h3 : t.k ≠ 3 := by omega
        have h4 : t.k ≠ 4 := by omega
        have k1 : (t.k == 1) = true := by simp [h1]
        have hhead : Hid (t.n = (t.head : Int)) := lay (by rw [head_eq, if_neg (by omega), if_neg (by omega)]; omega)
        clear h2 h1 h3 h4
        go_enter Try.func63, Try.ntmps63
        go_wp2_with (go_at_call 98; refine (HP.out _ _ hhead.out).mono ?_; rintro e w2 ⟨rfl, hb2⟩; clear hcv; obtain ⟨hc2, hf2⟩ := bcell hb2)
        have hb0 := below_own hb2
        clear hc2 hf2 hb2
        go_loopw [3, 47] (fun u i wr => BHead w t (UInt8.ofNat t.k.toNat :: (putL t.head ++ t.s.data.toList)) u i wr) (fun _ i _ => t.l.length - (intOf i).toNat)
        case atStart => exact ⟨0, _, Nat.zero_le _, rfl, rfl, lay (by rw [start_two _ _ t.s HSN.out]; simp [encL]), size_two _ _ hpt.2, hb0⟩
        case round =>
          obtain ⟨j, x, hj, rfl, rfl, hxl, hxs, hb⟩ := hrel
          by_cases hlt : j < t.l.length
          · obtain ⟨b0, off, A', c', rfl, hbl, hv, c0, c1, c2, c3⟩ := at_cells (hr.below hb) (hl.below hb) hlt
            have hg := size_get t.l j hlt
            have HJ := lay (shapedL_at t.l j hlt HL.out)
            have hel := enc_len t.l[j] HJ.out (Lies.word _ _ hv)
            have hz := HS.out
            have hel2 : t.l[j].enc.length ≤ 16044000 := by omega
            have hj4 : t.l[j].size ≤ 4000 := by omega
            have hjN : t.l[j].size ≤ N := by omega
            clear hz
            go_wp2_with (go_at_call 63; refine (ih t.l[j] _ _ hjN hj4 HJ.out (hv.later hb.size _)).mono ?_; rintro e w4 ⟨rfl, hb4⟩)
            exact ⟨bhead_next hlt HS.out HL.out HWd.out hpt.2 hs4 h4000 hxl.out (below_call hb hb4), by simp [intOf]; omega⟩
          · have hjl : t.l.take j = t.l := List.take_of_length_le (by omega)
            rw [hjl] at hxl
            go_wp2_with fail
            go_ret
            exact ⟨ret_str (by rw [hxl.out, enc_eq]; simp), hb⟩
      · have k1 : (t.k == 1) = false := by simp [h1]
        by_cases h3 : t.k = 3
        · have h4 : t.k ≠ 4 := by omega
          have k3 : (t.k == 3) = true := by simp [h3]
          have hhead : Hid (t.n = (t.head : Int)) := lay (by rw [head_eq, if_neg (by omega), if_neg (by omega)]; omega)
          clear h2 h1 h3 h4
          go_enter Try.func63, Try.ntmps63
          go_wp2_with (go_at_call 98; refine (HP.out _ _ hhead.out).mono ?_; rintro e w2 ⟨rfl, hb2⟩; clear hcv; obtain ⟨hc2, hf2⟩ := bcell hb2)
          have hb0 := below_own hb2
          clear hc2 hf2 hb2
          go_loopw [3, 47] (fun u i wr => BHead w t (UInt8.ofNat t.k.toNat :: (putL t.head ++ t.s.data.toList)) u i wr) (fun _ i _ => t.l.length - (intOf i).toNat)
          case atStart => exact ⟨0, _, Nat.zero_le _, rfl, rfl, lay (by rw [start_two _ _ t.s HSN.out]; simp [encL]), size_two _ _ hpt.2, hb0⟩
          case round =>
            obtain ⟨j, x, hj, rfl, rfl, hxl, hxs, hb⟩ := hrel
            by_cases hlt : j < t.l.length
            · obtain ⟨b0, off, A', c', rfl, hbl, hv, c0, c1, c2, c3⟩ := at_cells (hr.below hb) (hl.below hb) hlt
              have hg := size_get t.l j hlt
              have HJ := lay (shapedL_at t.l j hlt HL.out)
              have hel := enc_len t.l[j] HJ.out (Lies.word _ _ hv)
              have hz := HS.out
              have hel2 : t.l[j].enc.length ≤ 16044000 := by omega
              have hj4 : t.l[j].size ≤ 4000 := by omega
              have hjN : t.l[j].size ≤ N := by omega
              clear hz
              go_wp2_with (go_at_call 63; refine (ih t.l[j] _ _ hjN hj4 HJ.out (hv.later hb.size _)).mono ?_; rintro e w4 ⟨rfl, hb4⟩)
              exact ⟨bhead_next hlt HS.out HL.out HWd.out hpt.2 hs4 h4000 hxl.out (below_call hb hb4), by simp [intOf]; omega⟩
            · have hjl : t.l.take j = t.l := List.take_of_length_le (by omega)
              rw [hjl] at hxl
              go_wp2_with fail
              go_ret
              exact ⟨ret_str (by rw [hxl.out, enc_eq]; simp), hb⟩
        · have k3 : (t.k == 3) = false := by simp [h3]
          by_cases h4 : t.k = 4
          · have k4 : (t.k == 4) = true := by simp [h4]
            have hhead : Hid (t.n = (t.head : Int)) := lay (by rw [head_eq, if_neg (by omega), if_neg (by omega)]; omega)
            clear h2 h1 h3 h4
            go_enter Try.func63, Try.ntmps63
            go_wp2_with (go_at_call 98; refine (HP.out _ _ hhead.out).mono ?_; rintro e w2 ⟨rfl, hb2⟩; clear hcv; obtain ⟨hc2, hf2⟩ := bcell hb2)
            have hb0 := below_own hb2
            clear hc2 hf2 hb2
            go_loopw [3, 47] (fun u i wr => BHead w t (UInt8.ofNat t.k.toNat :: (putL t.head ++ t.s.data.toList)) u i wr) (fun _ i _ => t.l.length - (intOf i).toNat)
            case atStart => exact ⟨0, _, Nat.zero_le _, rfl, rfl, lay (by rw [start_two _ _ t.s HSN.out]; simp [encL]), size_two _ _ hpt.2, hb0⟩
            case round =>
              obtain ⟨j, x, hj, rfl, rfl, hxl, hxs, hb⟩ := hrel
              by_cases hlt : j < t.l.length
              · obtain ⟨b0, off, A', c', rfl, hbl, hv, c0, c1, c2, c3⟩ := at_cells (hr.below hb) (hl.below hb) hlt
                have hg := size_get t.l j hlt
                have HJ := lay (shapedL_at t.l j hlt HL.out)
                have hel := enc_len t.l[j] HJ.out (Lies.word _ _ hv)
                have hz := HS.out
                have hel2 : t.l[j].enc.length ≤ 16044000 := by omega
                have hj4 : t.l[j].size ≤ 4000 := by omega
                have hjN : t.l[j].size ≤ N := by omega
                clear hz
                go_wp2_with (go_at_call 63; refine (ih t.l[j] _ _ hjN hj4 HJ.out (hv.later hb.size _)).mono ?_; rintro e w4 ⟨rfl, hb4⟩)
                exact ⟨bhead_next hlt HS.out HL.out HWd.out hpt.2 hs4 h4000 hxl.out (below_call hb hb4), by simp [intOf]; omega⟩
              · have hjl : t.l.take j = t.l := List.take_of_length_le (by omega)
                rw [hjl] at hxl
                go_wp2_with fail
                go_ret
                exact ⟨ret_str (by rw [hxl.out, enc_eq]; simp), hb⟩
          · have k4 : (t.k == 4) = false := by simp [h4]
            have k5 : (t.k == 5) = true := by simp; omega

            have hhead : Hid ((t.l.length : Int) = (t.head : Int)) := lay (by rw [head_eq, if_neg h2, if_pos (by omega)])
            clear h2 h1 h3 h4
            go_enter Try.func63, Try.ntmps63
            go_wp2_with (go_at_call 98; refine (HP.out _ _ hhead.out).mono ?_; rintro e w2 ⟨rfl, hb2⟩; clear hcv; obtain ⟨hc2, hf2⟩ := bcell hb2)
            have hb0 := below_own hb2
            clear hc2 hf2 hb2
            go_loopw [3, 47] (fun u i wr => BHead w t (UInt8.ofNat t.k.toNat :: (putL t.head ++ t.s.data.toList)) u i wr) (fun _ i _ => t.l.length - (intOf i).toNat)
            case atStart => exact ⟨0, _, Nat.zero_le _, rfl, rfl, lay (by rw [start_two _ _ t.s HSN.out]; simp [encL]), size_two _ _ hpt.2, hb0⟩
            case round =>
              obtain ⟨j, x, hj, rfl, rfl, hxl, hxs, hb⟩ := hrel
              by_cases hlt : j < t.l.length
              · obtain ⟨b0, off, A', c', rfl, hbl, hv, c0, c1, c2, c3⟩ := at_cells (hr.below hb) (hl.below hb) hlt
                have hg := size_get t.l j hlt
                have HJ := lay (shapedL_at t.l j hlt HL.out)
                have hel := enc_len t.l[j] HJ.out (Lies.word _ _ hv)
                have hz := HS.out
                have hel2 : t.l[j].enc.length ≤ 16044000 := by omega
                have hj4 : t.l[j].size ≤ 4000 := by omega
                have hjN : t.l[j].size ≤ N := by omega
                clear hz
                go_wp2_with (go_at_call 63; refine (ih t.l[j] _ _ hjN hj4 HJ.out (hv.later hb.size _)).mono ?_; rintro e w4 ⟨rfl, hb4⟩)
                exact ⟨bhead_next hlt HS.out HL.out HWd.out hpt.2 hs4 h4000 hxl.out (below_call hb hb4), by simp [intOf]; omega⟩
              · have hjl : t.l.take j = t.l := List.take_of_length_le (by omega)
                rw [hjl] at hxl
                go_wp2_with fail
                go_ret
                exact ⟨ret_str (by rw [hxl.out, enc_eq]; simp), hb⟩
end Go.Proofs.Ytjlglfjikfpboaa.refEncs

/- The walk of the law TermBytes: it answers true and writes nothing that was there. -/

namespace Go.Proofs.Ytjlglfjikfpboaa.refEncs
set_option linter.unusedVariables false
set_option linter.unusedSimpArgs false
open Go.RowKit Go.Proofs.Ytjlglfjikfpboaa.base Go.Proofs.Ytjlglfjikfpboaa.tm Go.Proofs.Ytjlglfjikfpboaa.bytes Go.Proofs.Ytjlglfjikfpboaa.lies Go.Proofs.Ytjlglfjikfpboaa.rights Go.Proofs.Ytjlglfjikfpboaa.encs

set_option maxRecDepth 100000 in
theorem refEncode_ok (t : T) (v : Value) (w : World) (hL : Lies w w.heap.size t v) (hR : t.right = 0) :
    Calls Try.prog 26 #[T.val t v] w fun e w' => e = .returned (.tuple #[.string ⟨t.enc.toArray⟩, .int .i64 0]) ∧ Below w.heap.size w w' := by
  obtain ⟨A, c, xs, rfl, hk, hn, hs, hlc, hc, hr, hl⟩ := hL.open_
  obtain ⟨r1, r2, r3⟩ := right_ok hR
  have h1 := fun wx (hx : Lies wx wx.heap.size t (.slice A t.l.length c)) => refRight_any t _ wx hx
  rw [hR] at h1
  have hL1 := hL.later (Nat.le_refl _) (.cells #[.int .i64 t.k, .int .u64 t.n, .string t.s, .slice A t.l.length c] 39)
  have h2 := fun wx (hx : Lies wx wx.heap.size t (.slice A t.l.length c)) => bytes_any t.size t _ wx (Nat.le_refl _) r1 r3 hx
  clear hR
  go_enter Try.func26, Try.ntmps26
  go_wp2_with (first
    | (go_at_call 57; refine (h1 _ hL1).mono ?_; rintro e w1 ⟨rfl, hb1⟩; obtain ⟨hc1, hf1⟩ := bcell hb1; have hz1 : w.heap.size < w1.heap.size := by have := hb1.size; simp at this; omega)
    | (go_at_call 63; refine (h2 _ ((hL1.below hb1).now hb1.size)).mono ?_; rintro e w2 ⟨rfl, hb2⟩))
  go_ret2
  exact ⟨rfl, (below_call (Below.refl _ _) hb1).trans (hb2.mono (by omega))⟩

set_option maxRecDepth 100000 in
theorem refEncode_bad (t : T) (v : Value) (w : World) (hL : Lies w w.heap.size t v) (hR : t.right ≠ 0) :
    Calls Try.prog 26 #[T.val t v] w fun e w' => e = .returned (.tuple #[.string ⟨#[]⟩, .int .i64 t.right]) ∧ Below w.heap.size w w' := by
  obtain ⟨A, c, xs, rfl, hk, hn, hs, hlc, hc, hr, hl⟩ := hL.open_
  have h1 := fun wx (hx : Lies wx wx.heap.size t (.slice A t.l.length c)) => refRight_any t _ wx hx
  have hL1 := hL.later (Nat.le_refl _) (.cells #[.int .i64 t.k, .int .u64 t.n, .string t.s, .slice A t.l.length c] 39)
  have d1 : (t.right != 0) = true := by simpa using hR
  clear hR
  go_enter Try.func26, Try.ntmps26
  go_wp2_with fail
  refine (h1 _ hL1).mono ?_
  rintro e w1 ⟨rfl, hb1⟩
  obtain ⟨hc1, hf1⟩ := bcell hb1
  have hz1 : w.heap.size < w1.heap.size := by have := hb1.size; simp at this; omega
  go_wp2_with fail
  refine (h1 _ ((hL1.below hb1).now hb1.size)).mono ?_
  rintro e w2 ⟨rfl, hb2⟩
  go_wp2_with fail
  go_ret2
  exact ⟨rfl, (below_call (Below.refl _ _) hb1).trans (hb2.mono (by omega))⟩

end Go.Proofs.Ytjlglfjikfpboaa.refEncs

/- A list of terms that a call builds by append: what it holds, what an append leaves. -/

namespace Go.Proofs.Ytjlglfjikfpboaa.built
set_option linter.unusedVariables false
set_option linter.unusedSimpArgs false
open Go.RowKit Go.Proofs.Ytjlglfjikfpboaa.base Go.Proofs.Ytjlglfjikfpboaa.tm Go.Proofs.Ytjlglfjikfpboaa.lies Go.Proofs.Ytjlglfjikfpboaa.rights Go.Proofs.Ytjlglfjikfpboaa.copies

/-- the cells xs are the terms l, as long as the blocks of Q are left alone -/
def HeldQ (w : World) (Q : Nat → Prop) (l : List T) (xs : List Value) : Prop :=
  ∀ w2 B2, w.heap.size ≤ B2 → (∀ p : Addr, Q p.block → w2.cell? p = w.cell? p) → LiesL w2 B2 l xs
/-- the slice v, built by append in blocks from lo on, is the terms l -/
def Built (lo : Nat) (w : World) (l : List T) (v : Value) : Prop :=
  ∃ xs, w.ownsRow lo 39 4 v l.length xs ∧ HeldQ w (fun k => lo ≤ k ∧ k < w.heap.size ∧ some k ≠ v.ownBlock) l xs

theorem Built.nil (lo : Nat) (w : World) : Built lo w [] (.slice none 0 0) := ⟨[], ⟨rfl, .inl ⟨rfl, rfl⟩⟩, fun _ _ _ _ => rfl⟩
theorem Built.own {lo : Nat} {w : World} {l : List T} {v : Value} (h : Built lo w l v) : ∀ k, v.ownBlock = some k → lo ≤ k ∧ k < w.heap.size := by
  obtain ⟨xs, h1, _⟩ := h
  exact h1.lt
/-- what turns blocks below lo alone, and makes new ones -/
theorem Built.kept {lo : Nat} {w w' : World} {l : List T} {v : Value} (h : Built lo w l v) {row : Option Nat} (hg : w.grownBy w' row) (hr : ∀ g, row = some g → g < lo) : Built lo w' l v := by
  have hown := h.own
  obtain ⟨xs, h1, h2⟩ := h
  refine ⟨xs, h1.kept hg ?_, fun w2 B2 hB ha => h2 w2 B2 (Nat.le_trans hg.size hB) fun p hp => ?_⟩
  · cases hv : v.ownBlock with
    | none => exact .inl rfl
    | some k =>
      refine .inr fun e => ?_
      have := hr k e.symm
      have := (hown k hv).1
      omega
  · rw [ha p ⟨hp.1, Nat.lt_of_lt_of_le hp.2.1 hg.size, hp.2.2⟩]
    exact World.cell?_of_block (hg.block p.block hp.2.1 fun e => by have := hr p.block e.symm; omega)
theorem Built.below {lo : Nat} {w w' : World} {l : List T} {v : Value} (h : Built lo w l v) (hb : Below w.heap.size w w') : Built lo w' l v :=
  h.kept (row := none) (grown_below (World.grownBy.refl w none) hb) (fun g e => by cases e)
theorem Built.form {lo : Nat} {w : World} {l : List T} {v : Value} (h : Built lo w l v) : ∃ A c, v = .slice A l.length c ∧ l.length ≤ c := by
  obtain ⟨xs, h1, _⟩ := h
  rcases h1.2 with ⟨rfl, hn⟩ | ⟨g, cap, cur, rfl, _, _, hc, _⟩
  · exact ⟨none, 0, by rw [hn], by omega⟩
  · exact ⟨_, cap, rfl, hc⟩
theorem Built.held {lo : Nat} {w : World} {l : List T} {v : Value} (h : Built lo w l v) (hl : l.length * 56 ≤ 140737488355328) : Held w lo w.heap.size l v := by
  obtain ⟨xs, h1, h2⟩ := h
  rcases h1.2 with ⟨rfl, hn⟩ | ⟨g, cap, cur, rfl, hg, hb, hc, _, hs, ht⟩
  · obtain rfl := List.eq_nil_of_length_eq_zero hn
    exact Held.nil _ _ _
  · have hlt : g < w.heap.size := Blk.lt (t := 39) (cs := cur) hb
    refine ⟨_, cap, rfl, hc, hl, fun w2 B2 hB ha => ⟨xs, fun j u hj => ⟨g, 0, rfl, by omega, ?_⟩, h2 w2 B2 hB fun p hp => ha p hp.1 hp.2.1⟩⟩
    rw [ha ⟨g, 0 + j, none⟩ hg hlt, Nat.zero_add, Blk.cell (t := 39) (cs := cur) hb]
    rw [← ht, List.getElem?_take] at hj
    split at hj
    · simpa using hj
    · cases hj

/-- append of one term, whose own list lies in blocks from lo' on -/
theorem wpList_append_term {ops : Array Oper} {rest : List Oper} {o : Oper} {a : Act} {Q : Exit → Act → World → Prop} (hgd : o.guard = none) (s x : Operand)
    (ho : o.op = .call { callee := .builtin .append, args := #[s, x], argTypes := #[25, 25] })
    {lo lo' hi : Nat} {w : World} {v : Value} {l : List T} {t : T} {vt : Value} {cs : Array Value} (hcs : cs.toList = T.cells t vt) (hB : Built lo w l v) (hs : a.eval s = v) (hlo : lo ≤ w.heap.size)
    (ht : Held w lo' hi t.l vt) (hhi : hi ≤ w.heap.size) (hlo' : lo ≤ lo') (hown : ∀ k, v.ownBlock = some k → k < lo')
    (k1 : -9223372036854775808 ≤ t.k ∧ t.k ≤ 9223372036854775807) (k2 : 0 ≤ t.n ∧ t.n < 18446744073709551616) (k3 : t.s.size ≤ maxLen)
    {n : Nat} (hx : a.eval x = .slice (some ⟨n, 0, none⟩) 1 1) (hnz : n = w.heap.size) (hlen : (l.length + 1) * 56 ≤ 140737488355328)
    (h : ∀ v' w', Built lo w' (l ++ [t]) v' → Below lo w w' → w.heap.size ≤ w'.heap.size → (∀ g T cs, T ≠ 39 → Blk w g T cs → Blk w' g T cs) → wpList Try.prog ops Q rest (a.put o.dst v') w') : wpList Try.prog ops Q (o :: rest) a (w.alloc (.cells cs 39)) := by
  subst hnz
  obtain ⟨i0, hi0, hz0, hz1, hz2⟩ := info_parts info30
  have hBa := hB.below ((Below.refl _ _).alloc (Nat.le_refl _) (.cells cs 39))
  obtain ⟨xs, h1, h2⟩ := hBa
  have hnews := World.news_of_block (cs := cs) (t := 39) (fr := (0, 0)) (heap_alloc_new w (.cells cs 39))
  rw [hcs] at hnews
  refine wpList_append_own_at _ hgd s x 25 ho lo 39 i0 _ 4 56 Try.underlying25 hi0 hz0 hz1 hz2 rfl (by decide) v l.length xs hs h1 ⟨w.heap.size, 0, none⟩ 1 1 (T.cells t vt) hx rfl hnews ?_ (by unfold maxLen; omega) hlen (by simp; omega) ?_
  · obtain ⟨A, c, rfl, _⟩ := ht
    intro u hu
    simp [T.cells] at hu
    rcases hu with rfl | rfl | rfl | rfl <;> rfl
  · intro v' w' ho' hg _ hat
    have hz := hg.size
    simp only [World.size_alloc] at hz
    have hown0 : ∀ k, v.ownBlock = some k → lo ≤ k ∧ k < w.heap.size := hB.own
    have hkeep : ∀ p : Addr, p.block < w.heap.size → some p.block ≠ v.ownBlock → w'.cell? p = w.cell? p := fun p hp hne => by
      rw [World.cell?_of_block (hg.block p.block (by simp; omega) hne), World.cell?_alloc_lt _ _ _ hp]
    refine h v' w' ⟨xs ++ T.cells t vt, ?_, ?_⟩ ?_ (by omega) ?_
    · rw [List.length_append]; exact ho'
    · have hQ : ∀ k, lo ≤ k → k < w.heap.size → some k ≠ v.ownBlock → some k ≠ v'.ownBlock := fun k _ hk2 hk3 => by
        rcases hat with e | e
        · rw [e]; exact hk3
        · rw [e]; simp; omega
      intro w2 B2 hB2 ha
      have hl := h2 w2 B2 (by simp; omega) fun p hp => ?_
      · obtain ⟨A, c, e, hl1, hl2, hh⟩ := ht
        obtain ⟨ys, hr, hL⟩ := hh w2 B2 (by omega) fun p p1 p2 => by
          have hne : some p.block ≠ v.ownBlock := fun e => by have := hown p.block e.symm; omega
          rw [ha p ⟨by omega, by omega, hQ p.block (by omega) (by omega) hne⟩]
          exact hkeep p (by omega) hne
        subst e
        exact hl.snoc (Lies.mk k1 k2 k3 hl1 hl2 hr hL)
      · obtain ⟨q1, q2, q3⟩ := hp
        simp only [World.size_alloc] at q2
        rcases Nat.lt_or_ge p.block w.heap.size with hlt | hge
        · rw [ha p ⟨q1, by omega, hQ _ q1 hlt q3⟩, World.cell?_of_block (hg.block p.block (by simp; omega) q3)]
        · have hpb : p.block = w.heap.size := by omega
          have q4 : some p.block ≠ v'.ownBlock := by
            rcases hat with e | e
            · rw [e]; exact q3
            · rw [e]; simp; omega
          rw [ha p ⟨q1, by omega, q4⟩, World.cell?_of_block (hg.block p.block (by simp; omega) q3)]
    · refine ((Below.refl lo w).alloc hlo _).grown hg (by simp; omega) fun k hk => (hown0 k hk).1
    · intro g T cs' hT hb
      have hb1 := Blk.alloc hb (.cells cs 39)
      refine (hg.block g hb1.lt fun e => ?_).trans hb1
      rcases h1.2 with ⟨rfl, _⟩ | ⟨g', cap, cur, rfl, _, hh, _⟩
      · simp [Value.ownBlock] at e
      · simp [Value.ownBlock] at e
        subst e
        unfold Blk at hb1
        rw [hh] at hb1
        injection hb1 with hb1
        injection hb1 with _ hb1
        exact hT hb1.symm
end Go.Proofs.Ytjlglfjikfpboaa.built
