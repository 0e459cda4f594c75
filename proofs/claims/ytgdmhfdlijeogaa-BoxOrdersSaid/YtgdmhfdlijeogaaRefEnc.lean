/- A term's bytes, the document's own: Bytes, Encode. -/
import Derived.Test.YtgdmhfdlijeogaaEncode
namespace Go.Proofs.Ytgdmhfdlijeogaa.refEncs
set_option linter.unusedVariables false
set_option linter.unusedSimpArgs false
open Go.RowKit Go.Proofs.Ytgdmhfdlijeogaa.base Go.Proofs.Ytgdmhfdlijeogaa.tm Go.Proofs.Ytgdmhfdlijeogaa.bytes Go.Proofs.Ytgdmhfdlijeogaa.lies Go.Proofs.Ytgdmhfdlijeogaa.rights Go.Proofs.Ytgdmhfdlijeogaa.encs

/-- at the loop's head -/
def BHead (W : World) (t : T) (l : List UInt8) (u i : Value) (wr : World) : Prop :=
  ∃ (j : Nat) (x : ByteArray), j ≤ t.l.length ∧ i = .int .i64 j ∧ u = .string x ∧ Hid (x.data.toList = l ++ encL (t.l.take j)) ∧ x.size ≤ 16044000 ∧ Below W.heap.size W wr

theorem bhead_next {W wr : World} {t : T} {b : UInt8} {l : List UInt8} {x : ByteArray} {j : Nat} (hj : j < t.l.length) (hz : t.size = sizeL t.l + 1) (hsh : shapedL t.l = true) (hw : wordL t.l) (hl : l.length ≤ 10) (hs : t.s.size ≤ 4000) (h4 : t.size ≤ 4000)
    (hx : x.data.toList = (b :: (l ++ t.s.data.toList)) ++ encL (t.l.take j)) (hb : Below W.heap.size W wr) : BHead W t (b :: (l ++ t.s.data.toList)) (.string (x ++ ⟨t.l[j].enc.toArray⟩)) (.int .i64 ((j : Int) + 1)) wr := by
  have e : (x ++ ⟨t.l[j].enc.toArray⟩).data.toList = (b :: (l ++ t.s.data.toList)) ++ encL (t.l.take (j + 1)) := by
    rw [encL_take _ _ hj, ← List.append_assoc, ← hx]; simp
  refine ⟨j + 1, _, hj, by go_num, rfl, lay e, ?_, hb⟩
  have h1 := congrArg List.length e
  have h2 := encL_len _ (shapedL_tk t.l (j + 1) hsh) (wordL_tk t.l (j + 1) hw)
  have h3 := sizeL_le t.l (j + 1)
  have h5 : t.s.data.toList.length = t.s.size := by simp
  have h6 : (x ++ ⟨t.l[j].enc.toArray⟩).data.toList.length = (x ++ ⟨t.l[j].enc.toArray⟩).size := Array.length_toList
  rw [h6] at h1
  simp only [List.length_append, List.length_cons, h5] at h1
  omega
theorem ret_str {l : List UInt8} {x : ByteArray} (h : x.data.toList = l) : Ending.returned (.string x) = .returned (.string ⟨l.toArray⟩) := by
  subst h; rfl
theorem add1 (b : UInt8) (l : List UInt8) (h : l.length ≤ 10) (w : World) : (Op.stringOp .add ⟨#[b]⟩ ⟨l.toArray⟩).run Try.prog w = .ok (.string (⟨#[b]⟩ ++ ⟨l.toArray⟩)) w :=
  run_string_add_sum w _ _ (by show 1 + l.length ≤ _; omega)
theorem add2 (b : UInt8) (l : List UInt8) (s : ByteArray) (h : l.length ≤ 10) (hs : s.size ≤ 4000) (w : World) : (Op.stringOp .add (⟨#[b]⟩ ++ ⟨l.toArray⟩) s).run Try.prog w = .ok (.string (⟨#[b]⟩ ++ ⟨l.toArray⟩ ++ s)) w :=
  run_string_add_sum w _ _ (by rw [ByteArray.size_append]; show 1 + l.length + s.size ≤ _; omega)
theorem start_three (b : UInt8) (l : List UInt8) (s : ByteArray) : ((⟨#[b]⟩ : ByteArray) ++ ⟨l.toArray⟩ ++ s).data.toList = b :: (l ++ s.data.toList) := by simp
theorem size_three (b : UInt8) (l : List UInt8) (s : ByteArray) (h : l.length ≤ 10) (hs : s.size ≤ 4000) : ((⟨#[b]⟩ : ByteArray) ++ ⟨l.toArray⟩ ++ s).size ≤ 16044000 := by
  rw [ByteArray.size_append, ByteArray.size_append]; show 1 + l.length + s.size ≤ _; omega
theorem start_two (b : UInt8) (l : List UInt8) (s : ByteArray) (hs : s.data.toList = []) : ((⟨#[b]⟩ : ByteArray) ++ ⟨l.toArray⟩).data.toList = b :: (l ++ s.data.toList) := by simp [hs]
theorem size_two (b : UInt8) (l : List UInt8) (h : l.length ≤ 10) : ((⟨#[b]⟩ : ByteArray) ++ ⟨l.toArray⟩).size ≤ 16044000 := by
  rw [ByteArray.size_append]; show 1 + l.length ≤ _; omega
theorem conv_one (w : World) (g : Nat) (hg : g = w.heap.size) (x : Int) (h1 : 0 ≤ x) (h2 : x < 256) :
    (Go.convert 54 9 (.slice (some ⟨g, 0, none⟩) 1 1)).run Try.prog (w.alloc (.cells #[.int .u8 x] 5)) = .ok (.string ⟨#[UInt8.ofNat x.toNat]⟩) (w.alloc (.cells #[.int .u8 x] 5)) := by
  subst hg
  have h := run_convert_bytes_back (P := Try.prog) (w.alloc (.cells #[.int .u8 x] 5)) 54 9 5 ⟨w.heap.size, 0, none⟩ 1 [UInt8.ofNat x.toNat] Try.underlying54 Try.underlying5 Try.underlying9 (fun j hj => by
    obtain rfl : j = 0 := by simpa using hj
    have hx : ((UInt8.ofNat x.toNat).toNat : Int) = x := by rw [ofNat_to (by omega)]; omega
    simp only [List.getElem_cons_zero, hx]
    have := (Blk.new w 5 #[.int .u8 x]).cell 0
    rw [show (⟨w.heap.size, 0, none⟩ : Addr).add 0 = ⟨w.heap.size, 0, none⟩ from rfl]; exact this)
  exact h

theorem below_own {w w2 : World} {o o' : Obj} (hb : Below ((w.alloc o).alloc o').heap.size ((w.alloc o).alloc o') w2) : Below w.heap.size w w2 :=
  (((Below.refl _ _).alloc (Nat.le_refl _) o).alloc (by simp) o').trans (hb.mono (by simp; omega))
theorem below_own' {w w2 : World} {o o' : Obj} (hb : Below ((w.alloc o).alloc o').drew.heap.size ((w.alloc o).alloc o').drew w2) : Below w.heap.size w w2 :=
  (((Below.refl _ _).alloc (Nat.le_refl _) o).alloc (by simp) o').drew.trans (hb.mono (by simp; omega))

set_option maxRecDepth 100000 in
set_option maxHeartbeats 400000 in
theorem bytes_any (N : Nat) : ∀ (t : T) (v : Value) (w : World), t.size ≤ N → t.size ≤ 4000 → t.shaped = true → Lies w w.heap.size t v →
    Calls Try.prog 29 #[T.val t v] w fun e w' => e = .returned (.string ⟨t.enc.toArray⟩) ∧ Below w.heap.size w w' := by
  induction N with
  | zero => intro t v w h; have := size_pos t; omega
  | succ N ih =>
    intro t v w hN h4000 hsh hL
    obtain ⟨A, c, xs, rfl, hk, hn, hs, hlc, hc, hr, hl⟩ := hL.open_
    rw [shaped_eq, Bool.and_eq_true] at hsh
    obtain ⟨hone, hsl⟩ := hsh
    have HK := lay (one_kind hone)
    have hheadlt := headlt hone hn (by omega)
    have hk1 := HK.out.1
    have hk5 := HK.out.2.1
    have hs4 := HK.out.2.2.1
    have hpt := putL_ten hheadlt
    have HS := lay (size_eq t)
    have HL := Lib.hid hsl
    have HWd := lay (LiesL.word _ _ hl)
    have HLS := lay (show t.s.data.toList.length = t.s.size by simp)
    have hput : ∀ (x : Int) (wx : World), x = (t.head : Int) → Calls Try.prog 38 #[.int .u64 x] wx fun e w' => e = .returned (.string ⟨(putL t.head).toArray⟩) ∧ Below wx.heap.size wx w' := fun x wx hx => by subst hx; exact put.refPutNum_any t.head wx hheadlt
    have hcv := conv_one (w.alloc (.cells #[.int .i64 t.k, .int .u64 t.n, .string t.s, .slice A t.l.length c] 25)) (w.heap.size + 1) (by simp) t.k (by omega) (by omega)
    have HP := Lib.hid hput
    clear hput
    clear hone hsl
    by_cases h2 : t.k = 2
    · have k2 : (t.k == 2) = true := by simp [h2]
      have k1 : (t.k == 1) = false := by simp [h2]
      have k3 : (t.k == 3) = false := by simp [h2]
      have k4 : (t.k == 4) = false := by simp [h2]
      have hhead : Hid ((t.s.size : Int) = (t.head : Int)) := lay (by rw [head_eq, if_pos h2, HLS.out])
      clear h2
      go_enter Try.func29, Try.ntmps29
      go_wp2_with fail
      clear hcv
      have hq1 := add1 (UInt8.ofNat t.k.toNat) (putL t.head) hpt.2
      have hq2 := add2 (UInt8.ofNat t.k.toNat) (putL t.head) t.s hpt.2 hs4
      have hw64 : IntKind.u64.wrap (t.s.size : Int) = (t.s.size : Int) := by rw [IntKind.wrap_u64]; omega
      go_region_held3 (fun w' => w'.cell? ⟨w.heap.size, 2, none⟩ = some (.string t.s) ∧ w'.cell? ⟨w.heap.size, 3, none⟩ = some (.slice A t.l.length c)) (first | go_keep | (go_split_ands; refine ⟨?_, ?_⟩ <;> (rw [hc2 _ _ (by simp; omega)]; assumption)) | (go_split_ands; refine ⟨?_, ?_⟩ <;> (rw [hc2 _ _ (by simp; omega)]; simp)))
        ((go_at_call 38; refine (HP.out _ _ hhead.out).mono ?_; rintro e w2 ⟨rfl, hb2⟩; obtain ⟨hc2, hf2⟩ := bcell hb2))
      clear hw64 hq1 hq2
      go_wp2_with fail
      have hb0 := below_own' hb2
      clear hc2 hf2 hb2
      go_loopw [3, 47] (fun u i wr => BHead w t (UInt8.ofNat t.k.toNat :: (putL t.head ++ t.s.data.toList)) u i wr) (fun _ i _ => t.l.length - (intOf i).toNat)
      case atStart => exact ⟨0, _, Nat.zero_le _, rfl, rfl, lay (by rw [start_three]; simp [encL]), size_three _ _ _ hpt.2 hs4, hb0⟩
      case round =>
        obtain ⟨j, x, hj, rfl, rfl, hxl, hxs, hb⟩ := hrel
        by_cases hlt : j < t.l.length
        · obtain ⟨b0, off, A', c', rfl, hbl, hv, c0, c1, c2, c3⟩ := at_cells (hr.below hb) (hl.below hb) hlt
          have hg := size_get t.l j hlt
          have HJ := lay (shapedL_at t.l j hlt HL.out)
          have hel := enc_len t.l[j] HJ.out (Lies.word _ _ hv)
          have hz := HS.out
          have hel2 : t.l[j].enc.length ≤ 16044000 := by omega
          have hj4 : t.l[j].size ≤ 4000 := by omega
          have hjN : t.l[j].size ≤ N := by omega
          clear hz
          go_wp2_with (go_at_call 29; refine (ih t.l[j] _ _ hjN hj4 HJ.out (hv.later hb.size _)).mono ?_; rintro e w4 ⟨rfl, hb4⟩)
          exact ⟨bhead_next hlt HS.out HL.out HWd.out hpt.2 hs4 h4000 hxl.out (below_call hb hb4), by simp [intOf]; omega⟩
        · have hjl : t.l.take j = t.l := List.take_of_length_le (by omega)
          rw [hjl] at hxl
          go_wp2_with fail
          go_ret
          exact ⟨ret_str (by rw [hxl.out, enc_eq]; simp), hb⟩
    · have k2 : (t.k == 2) = false := by simp [h2]
      have HSN := lay (HK.out.2.2.2.1 h2)
      by_cases h1 : t.k = 1
      · have h3 : t.k ≠ 3 := by omega
        have h4 : t.k ≠ 4 := by omega
        have k1 : (t.k == 1) = true := by simp [h1]
        have hhead : Hid (t.n = (t.head : Int)) := lay (by rw [head_eq, if_neg (by omega), if_neg (by omega)]; omega)
        clear h2 h1 h3 h4
        go_enter Try.func29, Try.ntmps29
        go_wp2_with (go_at_call 38; refine (HP.out _ _ hhead.out).mono ?_; rintro e w2 ⟨rfl, hb2⟩; clear hcv; obtain ⟨hc2, hf2⟩ := bcell hb2)
        have hb0 := below_own hb2
        clear hc2 hf2 hb2
        go_loopw [3, 47] (fun u i wr => BHead w t (UInt8.ofNat t.k.toNat :: (putL t.head ++ t.s.data.toList)) u i wr) (fun _ i _ => t.l.length - (intOf i).toNat)
        case atStart => exact ⟨0, _, Nat.zero_le _, rfl, rfl, lay (by rw [start_two _ _ t.s HSN.out]; simp [encL]), size_two _ _ hpt.2, hb0⟩
        case round =>
          obtain ⟨j, x, hj, rfl, rfl, hxl, hxs, hb⟩ := hrel
          by_cases hlt : j < t.l.length
          · obtain ⟨b0, off, A', c', rfl, hbl, hv, c0, c1, c2, c3⟩ := at_cells (hr.below hb) (hl.below hb) hlt
            have hg := size_get t.l j hlt
            have HJ := lay (shapedL_at t.l j hlt HL.out)
            have hel := enc_len t.l[j] HJ.out (Lies.word _ _ hv)
            have hz := HS.out
            have hel2 : t.l[j].enc.length ≤ 16044000 := by omega
            have hj4 : t.l[j].size ≤ 4000 := by omega
            have hjN : t.l[j].size ≤ N := by omega
            clear hz
            go_wp2_with (go_at_call 29; refine (ih t.l[j] _ _ hjN hj4 HJ.out (hv.later hb.size _)).mono ?_; rintro e w4 ⟨rfl, hb4⟩)
            exact ⟨bhead_next hlt HS.out HL.out HWd.out hpt.2 hs4 h4000 hxl.out (below_call hb hb4), by simp [intOf]; omega⟩
          · have hjl : t.l.take j = t.l := List.take_of_length_le (by omega)
            rw [hjl] at hxl
            go_wp2_with fail
            go_ret
            exact ⟨ret_str (by rw [hxl.out, enc_eq]; simp), hb⟩
      · have k1 : (t.k == 1) = false := by simp [h1]
        by_cases h3 : t.k = 3
        · have h4 : t.k ≠ 4 := by omega
          have k3 : (t.k == 3) = true := by simp [h3]
          have hhead : Hid (t.n = (t.head : Int)) := lay (by rw [head_eq, if_neg (by omega), if_neg (by omega)]; omega)
          clear h2 h1 h3 h4
          go_enter Try.func29, Try.ntmps29
          go_wp2_with (go_at_call 38; refine (HP.out _ _ hhead.out).mono ?_; rintro e w2 ⟨rfl, hb2⟩; clear hcv; obtain ⟨hc2, hf2⟩ := bcell hb2)
          have hb0 := below_own hb2
          clear hc2 hf2 hb2
          go_loopw [3, 47] (fun u i wr => BHead w t (UInt8.ofNat t.k.toNat :: (putL t.head ++ t.s.data.toList)) u i wr) (fun _ i _ => t.l.length - (intOf i).toNat)
          case atStart => exact ⟨0, _, Nat.zero_le _, rfl, rfl, lay (by rw [start_two _ _ t.s HSN.out]; simp [encL]), size_two _ _ hpt.2, hb0⟩
          case round =>
            obtain ⟨j, x, hj, rfl, rfl, hxl, hxs, hb⟩ := hrel
            by_cases hlt : j < t.l.length
            · obtain ⟨b0, off, A', c', rfl, hbl, hv, c0, c1, c2, c3⟩ := at_cells (hr.below hb) (hl.below hb) hlt
              have hg := size_get t.l j hlt
              have HJ := lay (shapedL_at t.l j hlt HL.out)
              have hel := enc_len t.l[j] HJ.out (Lies.word _ _ hv)
              have hz := HS.out
              have hel2 : t.l[j].enc.length ≤ 16044000 := by omega
              have hj4 : t.l[j].size ≤ 4000 := by omega
              have hjN : t.l[j].size ≤ N := by omega
              clear hz
              go_wp2_with (go_at_call 29; refine (ih t.l[j] _ _ hjN hj4 HJ.out (hv.later hb.size _)).mono ?_; rintro e w4 ⟨rfl, hb4⟩)
              exact ⟨bhead_next hlt HS.out HL.out HWd.out hpt.2 hs4 h4000 hxl.out (below_call hb hb4), by simp [intOf]; omega⟩
            · have hjl : t.l.take j = t.l := List.take_of_length_le (by omega)
              rw [hjl] at hxl
              go_wp2_with fail
              go_ret
              exact ⟨ret_str (by rw [hxl.out, enc_eq]; simp), hb⟩
        · have k3 : (t.k == 3) = false := by simp [h3]
          by_cases h4 : t.k = 4
          · have k4 : (t.k == 4) = true := by simp [h4]
            have hhead : Hid (t.n = (t.head : Int)) := lay (by rw [head_eq, if_neg (by omega), if_neg (by omega)]; omega)
            clear h2 h1 h3 h4
            go_enter Try.func29, Try.ntmps29
            go_wp2_with (go_at_call 38; refine (HP.out _ _ hhead.out).mono ?_; rintro e w2 ⟨rfl, hb2⟩; clear hcv; obtain ⟨hc2, hf2⟩ := bcell hb2)
            have hb0 := below_own hb2
            clear hc2 hf2 hb2
            go_loopw [3, 47] (fun u i wr => BHead w t (UInt8.ofNat t.k.toNat :: (putL t.head ++ t.s.data.toList)) u i wr) (fun _ i _ => t.l.length - (intOf i).toNat)
            case atStart => exact ⟨0, _, Nat.zero_le _, rfl, rfl, lay (by rw [start_two _ _ t.s HSN.out]; simp [encL]), size_two _ _ hpt.2, hb0⟩
            case round =>
              obtain ⟨j, x, hj, rfl, rfl, hxl, hxs, hb⟩ := hrel
              by_cases hlt : j < t.l.length
              · obtain ⟨b0, off, A', c', rfl, hbl, hv, c0, c1, c2, c3⟩ := at_cells (hr.below hb) (hl.below hb) hlt
                have hg := size_get t.l j hlt
                have HJ := lay (shapedL_at t.l j hlt HL.out)
                have hel := enc_len t.l[j] HJ.out (Lies.word _ _ hv)
                have hz := HS.out
                have hel2 : t.l[j].enc.length ≤ 16044000 := by omega
                have hj4 : t.l[j].size ≤ 4000 := by omega
                have hjN : t.l[j].size ≤ N := by omega
                clear hz
                go_wp2_with (go_at_call 29; refine (ih t.l[j] _ _ hjN hj4 HJ.out (hv.later hb.size _)).mono ?_; rintro e w4 ⟨rfl, hb4⟩)
                exact ⟨bhead_next hlt HS.out HL.out HWd.out hpt.2 hs4 h4000 hxl.out (below_call hb hb4), by simp [intOf]; omega⟩
              · have hjl : t.l.take j = t.l := List.take_of_length_le (by omega)
                rw [hjl] at hxl
                go_wp2_with fail
                go_ret
                exact ⟨ret_str (by rw [hxl.out, enc_eq]; simp), hb⟩
          · have k4 : (t.k == 4) = false := by simp [h4]
            have k5 : (t.k == 5) = true := by simp; omega

            have hhead : Hid ((t.l.length : Int) = (t.head : Int)) := lay (by rw [head_eq, if_neg h2, if_pos (by omega)])
            clear h2 h1 h3 h4
            go_enter Try.func29, Try.ntmps29
            go_wp2_with (go_at_call 38; refine (HP.out _ _ hhead.out).mono ?_; rintro e w2 ⟨rfl, hb2⟩; clear hcv; obtain ⟨hc2, hf2⟩ := bcell hb2)
            have hb0 := below_own hb2
            clear hc2 hf2 hb2
            go_loopw [3, 47] (fun u i wr => BHead w t (UInt8.ofNat t.k.toNat :: (putL t.head ++ t.s.data.toList)) u i wr) (fun _ i _ => t.l.length - (intOf i).toNat)
            case atStart => exact ⟨0, _, Nat.zero_le _, rfl, rfl, lay (by rw [start_two _ _ t.s HSN.out]; simp [encL]), size_two _ _ hpt.2, hb0⟩
            case round =>
              obtain ⟨j, x, hj, rfl, rfl, hxl, hxs, hb⟩ := hrel
              by_cases hlt : j < t.l.length
              · obtain ⟨b0, off, A', c', rfl, hbl, hv, c0, c1, c2, c3⟩ := at_cells (hr.below hb) (hl.below hb) hlt
                have hg := size_get t.l j hlt
                have HJ := lay (shapedL_at t.l j hlt HL.out)
                have hel := enc_len t.l[j] HJ.out (Lies.word _ _ hv)
                have hz := HS.out
                have hel2 : t.l[j].enc.length ≤ 16044000 := by omega
                have hj4 : t.l[j].size ≤ 4000 := by omega
                have hjN : t.l[j].size ≤ N := by omega
                clear hz
                go_wp2_with (go_at_call 29; refine (ih t.l[j] _ _ hjN hj4 HJ.out (hv.later hb.size _)).mono ?_; rintro e w4 ⟨rfl, hb4⟩)
                exact ⟨bhead_next hlt HS.out HL.out HWd.out hpt.2 hs4 h4000 hxl.out (below_call hb hb4), by simp [intOf]; omega⟩
              · have hjl : t.l.take j = t.l := List.take_of_length_le (by omega)
                rw [hjl] at hxl
                go_wp2_with fail
                go_ret
                exact ⟨ret_str (by rw [hxl.out, enc_eq]; simp), hb⟩
end Go.Proofs.Ytgdmhfdlijeogaa.refEncs
