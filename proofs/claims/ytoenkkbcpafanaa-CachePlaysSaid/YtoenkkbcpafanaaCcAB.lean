/- The document's cache: Drop, New. -/
import Derived.Test.YtoenkkbcpafanaaCcAA


namespace Go.Proofs.Ytoenkkbcpafanaa.caches
set_option linter.unusedVariables false
set_option linter.unusedSimpArgs false
open Go.RowKit Go.Proofs.Ytoenkkbcpafanaa.base Go.Proofs.Ytoenkkbcpafanaa.vers Go.Proofs.Ytoenkkbcpafanaa.nodes Go.Proofs.Ytoenkkbcpafanaa.trees

section
variable {A : Option Addr} {c : Nat} {w w' w9 : World} {rp room f m f' m' : Nat} {F G : Nat → Prop} {v v' : Value} {l l' : List H}
/-- where the document's Drop stands -/
structure DR (w : World) (rp : Nat) (F : Nat → Prop) (room f m : Nat) (l : List H) (rs : List R) (j : Nat) (wr : World) (v' : Value) (F' : Nat → Prop) (l' : List H) : Prop where
  ca : Rf wr rp F' room f m v' l'
  eq : l'.map H.ph = dropP (l.map H.ph) (rs.take j)
  keep : Keep F w wr
  new : ∀ b, F' b → F b ∨ w.heap.size ≤ b
  le : l'.length ≤ l.length

set_option maxRecDepth 100000 in
set_option maxHeartbeats 16000000 in
theorem dropR_ok (h : Rf w rp F room f m v l) (rs : List R) (A : Option Addr) (c : Nat) (G : Nat → Prop) (hq : QsF w G rs A c) (hG : ∀ b, G b → b < w.heap.size ∧ ¬ F b) :
    Calls Try.prog 44 #[.pointer (some ⟨rp, 0, none⟩), .slice A rs.length c] w fun e w' => ∃ (l' : List H) (v' : Value) (F' : Nat → Prop), e = .returned (.int .i64 ((l.length : Int) - (l'.length : Int))) ∧ l'.map H.ph = dropP (l.map H.ph) rs ∧ Rf w' rp F' room f m v' l' ∧ Keep F w w' ∧ ∀ b, F' b → F b ∨ w.heap.size ≤ b := by
  have HI0 := vers.lay (show DR w rp F room f m l rs 0 w v F l from ⟨h, rfl, Keep.refl _ _, fun b hb => .inl hb, Nat.le_refl _⟩)
  have hlen := h.len
  have hcap := h.cap
  have hrs := hq.2.2.2
  have HQ := vers.lay (fun w' (hk : Keep F w w') => hq.agree (hk.agree hG))
  have HG := vers.lay hG
  have HFL := vers.lay h.flt
  clear h hq hG
  go_enter Try.func44, Try.ntmps44
  go_wp2_with fail
  go_loopw [5, 6] (fun n i wr => ∃ (j : Nat) (v2 : Value) (F2 : Nat → Prop) (l2 : List H), i = .int .i64 (j : Int) ∧ n = .int .i64 ((l.length : Int) - (l2.length : Int)) ∧ j ≤ rs.length ∧ Hid (DR w rp F room f m l rs j wr v2 F2 l2)) (fun _ i _ => rs.length - (RowKit.intOf i).toNat)
  case atStart => exact ⟨0, v, F, l, rfl, by rw [Int.sub_self], Nat.zero_le _, HI0⟩
  case round =>
    clear HI0
    obtain ⟨j, v2, F2, l2, rfl, rfl, hj, HD⟩ := hrel
    have hll := HD.out.le
    by_cases hlt : j < rs.length
    · obtain ⟨b, off, rfl, hb, y0, y1, y2, y3⟩ := (HQ.out wr HD.out.keep).at_ hlt
      have hbl : b < wr.heap.size := Nat.lt_of_lt_of_le (HG.out b hb).1 HD.out.keep.size
      have HN := vers.lay (dropP_next (l.map H.ph) rs hlt)
      obtain ⟨r, hr⟩ : ∃ r, rs[j] = r := ⟨_, rfl⟩
      rw [hr] at y0 y1 y2 y3 HN
      clear hr hb
      obtain ⟨rk, rg, ro, rn⟩ := r
      simp only at y0 y1 y2 y3
      have hf := atR_ok HD.out.ca rk rg ro rn
      obtain ⟨z, hz⟩ : ∃ z, atR (l2.map H.ph) ⟨rk, rg, ro, rn⟩ = z := ⟨_, rfl⟩
      rw [hz] at hf
      cases z with
      | none =>
        have d1 : oi (none : Option Nat) = (-1 : Int) := rfl
        rw [d1] at hf
        have HE := vers.lay (show l2.map H.ph = dropP (l.map H.ph) (rs.take (j + 1)) by rw [HN.out, ← HD.out.eq]; unfold drop1; rw [hz])
        clear d1 hz
        go_wp2_with (go_at_call 115; refine hf.mono ?_; rintro e1 w1 ⟨rfl, hb1⟩)
        have HD2 := vers.lay (show DR w rp F room f m l rs (j + 1) w1 v2 F2 l2 from ⟨HD.out.ca.below hb1, HE.out, HD.out.keep.seq hb1, HD.out.new, hll⟩)
        exact ⟨⟨j + 1, v2, F2, l2, by go_num, rfl, hlt, HD2⟩, by first | (simp [RowKit.intOf]; done) | (simp [RowKit.intOf]; omega) | omega⟩
      | some i =>
        have d1 : oi (some i) = (i : Int) := rfl
        rw [d1] at hf
        have hi : i < l2.length := by obtain ⟨h, _⟩ := atR_lt hz; simpa using h
        have HE := vers.lay (show (outL l2 i).map H.ph = dropP (l.map H.ph) (rs.take (j + 1)) by rw [HN.out, ← HD.out.eq]; unfold drop1; rw [hz, outL_map])
        have i0 : decide (0 ≤ (i : Int)) = true := decide_eq_true (by omega)
        have HW := vers.lay (fun w' (hc : Rf w' rp F2 room f m v2 l2) => outR_ok hc hi)
        have hol := outL_len l2 hi
        have HO := vers.lay (show (l.length : Int) - (l2.length : Int) + 1 = (l.length : Int) - ((outL l2 i).length : Int) ∧ (outL l2 i).length ≤ l.length by omega)
        have ew : IntKind.i64.wrap ((l.length : Int) - (l2.length : Int) + 1) = (l.length : Int) - (l2.length : Int) + 1 := IntWalk.i64_in _ (by omega)
        clear d1 hz hi hol
        go_upto_region 7 with (go_at_call 115; refine hf.mono ?_; rintro e1 w1 ⟨rfl, hb1⟩)
        have hw := HW.out w1 (HD.out.ca.below hb1)
        have HK1 := vers.lay (HD.out.keep.seq hb1)
        have hs1 := HK1.out.size
        clear hb1
        go_wp2_with (go_at_call 116; refine hw.mono ?_; rintro e2 w2 ⟨v9, F9, rfl, hX9, hk9, hf9, hg9⟩)
        have HD2 := vers.lay (show DR w rp F room f m l rs (j + 1) w2 v9 F9 (outL l2 i) from ⟨hX9, HE.out, HK1.out.trans hk9 (fun b e hl => by
          rcases HD.out.new b (e ▸ HD.out.ca.fp) with h | h
          · exact h
          · omega), fun b hb => (hf9 b hb).elim (HD.out.new b) (fun h => .inr (by omega)), HO.out.2⟩)
        exact ⟨⟨j + 1, v9, F9, outL l2 i, by go_num, by rw [← HO.out.1], hlt, HD2⟩, by first | (simp [RowKit.intOf]; done) | (simp [RowKit.intOf]; omega) | omega⟩
    · obtain rfl : j = rs.length := by omega
      have HE := vers.lay (show l2.map H.ph = dropP (l.map H.ph) rs by have := HD.out.eq; rw [List.take_length] at this; exact this)
      go_wp2_with fail
      go_ret
      exact ⟨l2, v2, F2, rfl, HE.out, HD.out.ca, HD.out.keep, HD.out.new⟩

end
end Go.Proofs.Ytoenkkbcpafanaa.caches
