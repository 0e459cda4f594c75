/- The document's answers for lists; texts compared. -/
import Derived.Test.YtchghlbiongccaaKLsH
import Derived.Test.YtchghlbiongccaaKNdE
import Derived.Test.YtchghlbiongccaaKMix


namespace Go.Proofs.Ytchghlbiongccaa.trees
set_option linter.unusedVariables false
set_option linter.unusedSimpArgs false
open Go.RowKit Go.Shelf Go.Proofs.Ytchghlbiongccaa.base Go.Proofs.Ytchghlbiongccaa.quotas Go.Proofs.Ytchghlbiongccaa.vers Go.Proofs.Ytchghlbiongccaa.nodes

set_option maxRecDepth 100000 in
set_option maxHeartbeats 4000000 in
theorem named_ok (s : ByteArray) (l : List ByteArray) (A : Option Addr) (c : Nat) (w : World) (hT : Ts w w.heap.size l A c) :
    Calls Try.prog 70 #[.string s, .slice A l.length c] w fun e w' => e = .returned (.bool (fitP l s)) ∧ w' = w := by
  have hlen : l.length ≤ 140737488355328 := by have := hT.2.1; omega
  have hb := fun t => refBegins_any s t w
  go_enter Try.func70, Try.ntmps70
  go_wp2_with fail
  go_loopw [9] (fun i wr => ∃ j : Nat, j ≤ l.length ∧ i = .int .i64 (j : Int) ∧ wr = w ∧ Hid (l.any (hasP s) = (l.drop j).any (hasP s))) (fun i _ => l.length - (intOf i).toNat)
  case atStart => exact ⟨0, Nat.zero_le _, rfl, rfl, vers.lay rfl⟩
  case round =>
    obtain ⟨j, hj, rfl, rfl, hH⟩ := hrel
    by_cases hlt : j < l.length
    · obtain ⟨b, off, rfl, hbk, e0⟩ := hT.at_ hlt
      have hH2 := vers.lay (hH.out.trans (by rw [List.drop_eq_getElem_cons hlt, List.any_cons]))
      clear hH
      have hcj := hb l[j]
      generalize l[j] = t at e0 hcj hH2
      cases hp : hasP s t with
      | true =>
        rw [hp] at hcj
        have hH3 := vers.lay (hH2.out.trans (by rw [hp, Bool.true_or]))
        clear hH2 hp hb
        go_wp2_with fail
        refine hcj.mono ?_
        rintro e1 w1 ⟨rfl, rfl⟩
        go_wp2_with fail
        go_ret
        exact ⟨by unfold fitP; rw [hH3.out]; simp, rfl⟩
      | false =>
        rw [hp] at hcj
        have hH3 := vers.lay (hH2.out.trans (by rw [hp, Bool.false_or]))
        clear hH2 hp hb
        go_wp2_with fail
        refine hcj.mono ?_
        rintro e1 w1 ⟨rfl, rfl⟩
        go_wp2_with fail
        exact ⟨⟨j + 1, hlt, by go_num, by trivial, hH3⟩, by first | (simp [intOf]; done) | (simp [intOf]; omega) | omega⟩
    · obtain rfl : j = l.length := by omega
      have hH3 := vers.lay (hH.out.trans (by rw [List.drop_length, List.any_nil]))
      clear hH hb
      have HL := vers.lay (show fitP l s = ((l.length : Int) == 0) by
        unfold fitP
        rw [hH3.out, Bool.or_false]
        cases l with
        | nil => rfl
        | cons a b =>
          have h1 : ((a :: b).length == 0) = false := rfl
          rw [h1]
          symm
          rw [beq_eq_false_iff_ne]
          simp only [List.length_cons]
          omega)
      generalize l.length = n at *
      go_wp2_with fail
      go_ret
      exact ⟨by rw [HL.out]; first | rfl | (congr 2; by_cases h : n = 0 <;> simp [h]) | (by_cases h : n = 0 <;> simp [h]), rfl⟩

theorem filtS_le (f : ByteArray → Bool) (es : List E) (j : Nat) : (((es.take j).filter (fun x => f x.s)).map (·.s)).length ≤ j := by rw [List.length_map]; exact filtE_le f es j

set_option maxRecDepth 100000 in
set_option maxHeartbeats 4000000 in
theorem refNames_ok (es : List E) (A : Option Addr) (c : Nat) (ps : List ByteArray) (A2 : Option Addr) (c2 : Nat) (w : World) (hE : Es w w.heap.size es A c) (hT : Ts w w.heap.size ps A2 c2) (hlen : es.length ≤ 1000) :
    Calls Try.prog 30 #[.slice A es.length c, .slice A2 ps.length c2] w fun e w' => ∃ v, e = .returned v ∧ Below w.heap.size w w' ∧ TsOwn w w' v ((es.filter fun x => fitP ps x.s).map (·.s)) := by
  have b0 : Below w.heap.size w (w.alloc (.cells #[] 9)) := (Below.refl _ _).alloc (Nat.le_refl _) _
  have r0 : (w.alloc (.cells #[] 9)).ownsRow 0 9 1 (.slice (some ⟨w.heap.size, 0, none⟩) 0 0) 0 (sts []) := ⟨rfl, .inr ⟨w.heap.size, 0, #[], rfl, Nat.zero_le _, heap_alloc_new w _, Nat.le_refl _, Nat.zero_le _, rfl, rfl⟩⟩
  have HE := vers.lay hE
  have HT := vers.lay hT
  have hps := hT.2.1
  clear hE hT
  go_enter Try.func30, Try.ntmps30
  go_wp2_with fail
  generalize w.alloc (.cells #[] 9) = W0 at *
  go_loopw [11, 5] (fun i u wr => ∃ j : Nat, j ≤ es.length ∧ i = .int .i64 (j : Int) ∧ Below w.heap.size w wr ∧ wr.ownsRow 0 9 1 u (((es.take j).filter fun x => fitP ps x.s).map (·.s)).length (sts (((es.take j).filter fun x => fitP ps x.s).map (·.s))) ∧ Hid (∀ g, u.ownBlock = some g → w.heap.size ≤ g)) (fun i _ _ => es.length - (intOf i).toNat)
  case atStart => exact ⟨0, Nat.zero_le _, rfl, b0, r0, vers.lay (fun g hg => by cases hg; exact Nat.le_refl _)⟩
  case round =>
    clear r0 b0
    obtain ⟨j, hj, rfl, hb, ho, hu⟩ := hrel
    by_cases hlt : j < es.length
    · obtain ⟨bk, off, rfl, hbk, x0, x1, hV⟩ := (HE.out.below hb).at_ hlt
      have hfl := filtS_le (fitP ps) es j
      have hdy := filtE_yes (f := fitP ps) hlt
      have hdn := filtE_no (f := fitP ps) hlt
      have hm := trivial
      obtain ⟨x, hx⟩ : ∃ x, x = es[j] := ⟨_, rfl⟩
      rw [← hx] at x0 x1
      simp only [← hx] at hdy hdn
      have hd := (⟨hdy, hdn⟩ : (fitP ps x.s = true → _) ∧ (fitP ps x.s = false → _))
      clear hx hV hdy hdn
      obtain ⟨xs, xl, xA, xc⟩ := x
      simp only [] at x0 x1 hd hm
      have bX : Below wr.heap.size wr (wr.alloc (.cells #[.string xs, .slice xA xl.length xc] 58)) := (Below.refl _ _).alloc (Nat.le_refl _) _
      have kX := Blk.new wr 58 #[.string xs, .slice xA xl.length xc]
      have hoX := row_below ho bX
      have hbs := hb.size
      have hbX := hb.trans (bX.mono hbs)
      generalize hWX : wr.alloc (.cells #[.string xs, .slice xA xl.length xc] 58) = WX at *
      have q0 := kX.cell 0
      have q1 := kX.cell 1
      simp only [List.getElem?_toArray, List.getElem?_cons_zero, List.getElem?_cons_succ] at q0 q1
      have lX := kX.lt
      have hnm := named_ok xs ps A2 c2 WX (HT.out.at_world hbX)
      obtain ⟨old, hold⟩ : ∃ old, old = ((es.take j).filter fun x => fitP ps x.s).map (·.s) := ⟨_, rfl⟩
      rw [← hold] at ho hoX hfl
      have HOLD := vers.lay hold
      clear hold ho hm
      have hdn2 := vers.lay hd
      clear hd
      cases hfx : fitP ps xs with
      | true =>
        rw [hfx] at hnm
        have HD := vers.lay (show ((es.take (j + 1)).filter fun x => fitP ps x.s).map (·.s) = old ++ [xs] by rw [hdn2.out.1 hfx, List.map_append, ← HOLD.out]; rfl)
        clear hdn2 hfx
        go_wp2_with fail
        refine hnm.mono ?_
        rintro e1 w1 ⟨rfl, rfl⟩
        go_wp2_with (at_builtin; refine wp_text (b := xs) rfl _ _ rfl hoX rfl rfl rfl (by omega) ?_; intro v9 w9 ho9 hk9 hv9 hz9)
        refine ⟨⟨j + 1, hlt, by go_num, hbX.trans (hk9.below (fun g hg => hu.out g hg) hbX.size), by rw [HD.out]; exact ho9, vers.lay (fun g hg => (hv9 g hg).elim (fun h => hu.out g h) (fun h => Nat.le_trans hbX.size h.1))⟩, by first | (simp [intOf]; done) | (simp [intOf]; omega) | omega⟩
      | false =>
        rw [hfx] at hnm
        have HD := vers.lay (show ((es.take (j + 1)).filter fun x => fitP ps x.s).map (·.s) = old by rw [hdn2.out.2 hfx, ← HOLD.out])
        clear hdn2 hfx
        go_wp2_with fail
        refine hnm.mono ?_
        rintro e1 w1 ⟨rfl, rfl⟩
        go_wp2_with fail
        refine ⟨⟨j + 1, hlt, by go_num, hbX, by rw [HD.out]; exact hoX, hu⟩, by first | (simp [intOf]; done) | (simp [intOf]; omega) | omega⟩
    · obtain rfl : j = es.length := by omega
      rw [List.take_length] at ho
      obtain ⟨old, hold⟩ : ∃ old, old = ((es.filter fun x => fitP ps x.s).map (·.s)) := ⟨_, rfl⟩
      rw [← hold] at ho
      have HOLD := vers.lay hold
      clear hold
      go_wp2_with fail
      go_ret
      refine ⟨u5, rfl, hb, ?_⟩
      rw [← HOLD.out]
      refine ⟨ho, fun g hg => hu.out g hg, fun x hx => ?_⟩
      rw [HOLD.out] at hx
      obtain ⟨y, hy, rfl⟩ := List.mem_map.1 hx
      exact (HE.out.2.2.2.2 y (List.mem_filter.1 hy).1).2

set_option maxRecDepth 100000 in
set_option maxHeartbeats 4000000 in
theorem refRange_ok (es : List E) (A : Option Addr) (c : Nat) (ta tb : ByteArray) (w : World) (hE : Es w w.heap.size es A c) (hlen : es.length ≤ 1000) :
    Calls Try.prog 38 #[.slice A es.length c, .string ta, .string tb] w fun e w' => ∃ v, e = .returned v ∧ Below w.heap.size w w' ∧ w'.ownsRow 0 58 2 v (es.filter fun x => inR ta tb x.s).length (cellsE (es.filter fun x => inR ta tb x.s)) ∧ ∀ g, v.ownBlock = some g → w.heap.size ≤ g := by
  have b0 : Below w.heap.size w (w.alloc (.cells #[] 58)) := (Below.refl _ _).alloc (Nat.le_refl _) _
  have r0 : (w.alloc (.cells #[] 58)).ownsRow 0 58 2 (.slice (some ⟨w.heap.size, 0, none⟩) 0 0) 0 (cellsE []) := ⟨rfl, .inr ⟨w.heap.size, 0, #[], rfl, Nat.zero_le _, heap_alloc_new w _, Nat.le_refl _, Nat.zero_le _, rfl, rfl⟩⟩
  have HE := vers.lay hE
  clear hE
  go_enter Try.func38, Try.ntmps38
  go_wp2_with fail
  generalize w.alloc (.cells #[] 58) = W0 at *
  go_loopw [13, 7] (fun i u wr => ∃ j : Nat, j ≤ es.length ∧ i = .int .i64 (j : Int) ∧ Below w.heap.size w wr ∧ wr.ownsRow 0 58 2 u ((es.take j).filter fun x => inR ta tb x.s).length (cellsE ((es.take j).filter fun x => inR ta tb x.s)) ∧ Hid (∀ g, u.ownBlock = some g → w.heap.size ≤ g)) (fun i _ _ => es.length - (intOf i).toNat)
  case atStart => exact ⟨0, Nat.zero_le _, rfl, b0, r0, vers.lay (fun g hg => by cases hg; exact Nat.le_refl _)⟩
  case round =>
    clear r0 b0
    obtain ⟨j, hj, rfl, hb, ho, hu⟩ := hrel
    by_cases hlt : j < es.length
    · obtain ⟨bk, off, rfl, hbk, x0, x1, hV⟩ := (HE.out.below hb).at_ hlt
      have hfl := filtE_le (inR ta tb) es j
      have hdy := filtE_yes (f := inR ta tb) hlt
      have hdn := filtE_no (f := inR ta tb) hlt
      have hm := trivial
      obtain ⟨x, hx⟩ : ∃ x, x = es[j] := ⟨_, rfl⟩
      rw [← hx] at x0 x1
      simp only [← hx] at hdy hdn
      have hd := (⟨hdy, hdn⟩ : (inR ta tb x.s = true → _) ∧ (inR ta tb x.s = false → _))
      clear hx hV hdy hdn
      obtain ⟨xs, xl, xA, xc⟩ := x
      simp only [] at x0 x1 hd hm
      have bX : Below wr.heap.size wr (wr.alloc (.cells #[.string xs, .slice xA xl.length xc] 58)) := (Below.refl _ _).alloc (Nat.le_refl _) _
      have kX := Blk.new wr 58 #[.string xs, .slice xA xl.length xc]
      have hoX := row_below ho bX
      have hbs := hb.size
      have hbX := hb.trans (bX.mono hbs)
      generalize hWX : wr.alloc (.cells #[.string xs, .slice xA xl.length xc] 58) = WX at *
      have q0 := kX.cell 0
      have q1 := kX.cell 1
      simp only [List.getElem?_toArray, List.getElem?_cons_zero, List.getElem?_cons_succ] at q0 q1
      have lX := kX.lt
      obtain ⟨old, hold⟩ : ∃ old, old = (es.take j).filter fun x => inR ta tb x.s := ⟨_, rfl⟩
      rw [← hold] at ho hoX hfl
      have HOLD := vers.lay hold
      clear hold ho hm
      have hdn2 := vers.lay hd
      clear hd
      cases ha : ltS xs ta with
      | true =>
        obtain ⟨g1, g2, g3, g4⟩ := clt ha
        have hfx : inR ta tb xs = false := by unfold inR; rw [ha]; rfl
        clear ha
        have HD := vers.lay (hdn2.out.2 hfx)
        clear hdn2 hfx
        go_wp2_with fail
        refine ⟨⟨j + 1, hlt, by go_num, hbX, by rw [HD.out, ← HOLD.out]; exact hoX, hu⟩, by first | (simp [intOf]; done) | (simp [intOf]; omega) | omega⟩
      | false =>
        cases ha2 : ltS ta xs with
        | true =>
          obtain ⟨g1, g2, g3, g4⟩ := clt ha2
          clear ha2
          by_cases hb0 : tb.size = 0
          · obtain rfl : tb = ⟨#[]⟩ := by
              cases tb with
              | mk d => have : d.size = 0 := hb0; simp only [ByteArray.mk.injEq]; exact Array.eq_empty_of_size_eq_zero this
            have hfx : inR ta ⟨#[]⟩ xs = true := by unfold inR; rw [ha]; rfl
            clear ha hb0
            have HD := vers.lay (hdn2.out.1 hfx)
            clear hdn2 hfx
            go_wp2_with (at_builtin; refine wp_secret (e := ⟨xs, xl, xA, xc⟩) rfl _ _ rfl hoX rfl rfl rfl (by omega) ?_; intro v9 w9 ho9 hk9 hv9 hz9)
            refine ⟨⟨j + 1, hlt, by go_num, hbX.trans (hk9.below (fun g hg => hu.out g hg) hbX.size), by rw [HD.out, ← HOLD.out]; exact ho9, vers.lay (fun g hg => (hv9 g hg).elim (fun h => hu.out g h) (fun h => Nat.le_trans hbX.size h.1))⟩, by first | (simp [intOf]; done) | (simp [intOf]; omega) | omega⟩
          · have g6 : (tb.toList == ([] : List UInt8)) = false := by
              rw [beq_eq_false_iff_ne, Lib.toList_data]
              intro h
              apply hb0
              have : tb.data.size = 0 := by rw [← Array.length_toList, h]; rfl
              exact this
            have g7 : (tb.toList == (ByteArray.mk #[]).toList) = false := by
              rw [beq_eq_false_iff_ne, Lib.toList_data, Lib.toList_data]
              intro h
              apply hb0
              have : tb.data.size = 0 := by rw [← Array.length_toList, h]; rfl
              exact this
            cases hb2 : ltS xs tb with
            | true =>
              obtain ⟨q1_, q2_, q3_, q4_⟩ := clt hb2
              have hfx : inR ta tb xs = true := by unfold inR; rw [ha, hb2]; simp
              clear ha hb2 hb0
              have HD := vers.lay (hdn2.out.1 hfx)
              clear hdn2 hfx
              go_wp2_with (at_builtin; refine wp_secret (e := ⟨xs, xl, xA, xc⟩) rfl _ _ rfl hoX rfl rfl rfl (by omega) ?_; intro v9 w9 ho9 hk9 hv9 hz9)
              refine ⟨⟨j + 1, hlt, by go_num, hbX.trans (hk9.below (fun g hg => hu.out g hg) hbX.size), by rw [HD.out, ← HOLD.out]; exact ho9, vers.lay (fun g hg => (hv9 g hg).elim (fun h => hu.out g h) (fun h => Nat.le_trans hbX.size h.1))⟩, by first | (simp [intOf]; done) | (simp [intOf]; omega) | omega⟩
            | false =>
              have q1_ : Op.bytesLess xs.toList tb.toList = false := by rw [Go.Proofs.bytesLess_eq, Lib.toList_data, Lib.toList_data]; exact hb2
              have hfx : inR ta tb xs = false := by unfold inR; rw [ha, hb2]; simp [hb0]
              clear ha hb2 hb0
              have HD := vers.lay (hdn2.out.2 hfx)
              clear hdn2 hfx
              go_wp2_with fail
              refine ⟨⟨j + 1, hlt, by go_num, hbX, by rw [HD.out, ← HOLD.out]; exact hoX, hu⟩, by first | (simp [intOf]; done) | (simp [intOf]; omega) | omega⟩
        | false =>
          obtain rfl : xs = ta := ltS_total ha ha2
          obtain ⟨g1, g2⟩ := ceq xs
          clear ha2
          by_cases hb0 : tb.size = 0
          · obtain rfl : tb = ⟨#[]⟩ := by
              cases tb with
              | mk d => have : d.size = 0 := hb0; simp only [ByteArray.mk.injEq]; exact Array.eq_empty_of_size_eq_zero this
            have hfx : inR xs ⟨#[]⟩ xs = true := by unfold inR; rw [ha]; rfl
            clear ha hb0
            have HD := vers.lay (hdn2.out.1 hfx)
            clear hdn2 hfx
            go_wp2_with (at_builtin; refine wp_secret (e := ⟨xs, xl, xA, xc⟩) rfl _ _ rfl hoX rfl rfl rfl (by omega) ?_; intro v9 w9 ho9 hk9 hv9 hz9)
            refine ⟨⟨j + 1, hlt, by go_num, hbX.trans (hk9.below (fun g hg => hu.out g hg) hbX.size), by rw [HD.out, ← HOLD.out]; exact ho9, vers.lay (fun g hg => (hv9 g hg).elim (fun h => hu.out g h) (fun h => Nat.le_trans hbX.size h.1))⟩, by first | (simp [intOf]; done) | (simp [intOf]; omega) | omega⟩
          · have g6 : (tb.toList == ([] : List UInt8)) = false := by
              rw [beq_eq_false_iff_ne, Lib.toList_data]
              intro h
              apply hb0
              have : tb.data.size = 0 := by rw [← Array.length_toList, h]; rfl
              exact this
            have g7 : (tb.toList == (ByteArray.mk #[]).toList) = false := by
              rw [beq_eq_false_iff_ne, Lib.toList_data, Lib.toList_data]
              intro h
              apply hb0
              have : tb.data.size = 0 := by rw [← Array.length_toList, h]; rfl
              exact this
            cases hb2 : ltS xs tb with
            | true =>
              obtain ⟨q1_, q2_, q3_, q4_⟩ := clt hb2
              have hfx : inR xs tb xs = true := by unfold inR; rw [ha, hb2]; simp
              clear ha hb2 hb0
              have HD := vers.lay (hdn2.out.1 hfx)
              clear hdn2 hfx
              go_wp2_with (at_builtin; refine wp_secret (e := ⟨xs, xl, xA, xc⟩) rfl _ _ rfl hoX rfl rfl rfl (by omega) ?_; intro v9 w9 ho9 hk9 hv9 hz9)
              refine ⟨⟨j + 1, hlt, by go_num, hbX.trans (hk9.below (fun g hg => hu.out g hg) hbX.size), by rw [HD.out, ← HOLD.out]; exact ho9, vers.lay (fun g hg => (hv9 g hg).elim (fun h => hu.out g h) (fun h => Nat.le_trans hbX.size h.1))⟩, by first | (simp [intOf]; done) | (simp [intOf]; omega) | omega⟩
            | false =>
              have q1_ : Op.bytesLess xs.toList tb.toList = false := by rw [Go.Proofs.bytesLess_eq, Lib.toList_data, Lib.toList_data]; exact hb2
              have hfx : inR xs tb xs = false := by unfold inR; rw [ha, hb2]; simp [hb0]
              clear ha hb2 hb0
              have HD := vers.lay (hdn2.out.2 hfx)
              clear hdn2 hfx
              go_wp2_with fail
              refine ⟨⟨j + 1, hlt, by go_num, hbX, by rw [HD.out, ← HOLD.out]; exact hoX, hu⟩, by first | (simp [intOf]; done) | (simp [intOf]; omega) | omega⟩
    · obtain rfl : j = es.length := by omega
      rw [List.take_length] at ho
      obtain ⟨old, hold⟩ : ∃ old, old = es.filter fun x => inR ta tb x.s := ⟨_, rfl⟩
      rw [← hold] at ho
      have HOLD := vers.lay hold
      clear hold
      go_wp2_with fail
      go_ret
      refine ⟨u7, rfl, hb, ?_⟩
      rw [← HOLD.out]
      exact ⟨ho, fun g hg => hu.out g hg⟩

end Go.Proofs.Ytchghlbiongccaa.trees

/- The document's Nth and Floor; texts compared. -/

namespace Go.Proofs.Ytchghlbiongccaa.trees
set_option linter.unusedVariables false
set_option linter.unusedSimpArgs false
open Go.RowKit Go.Shelf Go.Proofs.Ytchghlbiongccaa.base Go.Proofs.Ytchghlbiongccaa.quotas Go.Proofs.Ytchghlbiongccaa.vers Go.Proofs.Ytchghlbiongccaa.nodes

def RefOne (w : World) (z : PE × Bool) (e : Ending) (w' : World) : Prop :=
  Below w.heap.size w w' ∧ ∃ x : E, e = .returned (.tuple #[.agg #[.string x.s, .slice x.A x.l.length x.c], .bool z.2]) ∧ pe x = z.1 ∧ Vs w' w'.heap.size x.l x.A x.c ∧ x.s.size ≤ maxLen
theorem vs_zero (w : World) : Vs w w.heap.size [] none 0 := ⟨Nat.le_refl _, by simp, fun _ => rfl, Rd.nil _ _ _, fun x hx => by cases hx⟩

set_option maxRecDepth 100000 in
set_option maxHeartbeats 4000000 in
theorem refNth_ok (es : List E) (A : Option Addr) (c : Nat) (n : Int) (w : World) (hE : Es w w.heap.size es A c) (hlen : es.length ≤ 1000) (hn : -9223372036854775808 ≤ n ∧ n ≤ 9223372036854775807) :
    Calls Try.prog 34 #[.slice A es.length c, .int .i64 n] w (RefOne w (nthP (es.map pe) n)) := by
  have bR : Below w.heap.size w (w.alloc (.cells #[.string ⟨#[]⟩, .slice none 0 0] 58)) := (Below.refl _ _).alloc (Nat.le_refl _) _
  have kF := Blk.new w 58 #[.string ⟨#[]⟩, .slice none 0 0]
  generalize hWR : w.alloc (.cells #[.string ⟨#[]⟩, .slice none 0 0] 58) = WR at *
  have lE := kF.lt
  have f0 := kF.frozen 0
  have f1 := kF.frozen 1
  have e0 := kF.cell 0
  have e1 := kF.cell 1
  simp only [List.getElem?_toArray, List.getElem?_cons_zero, List.getElem?_cons_succ] at e0 e1
  have hER := hE.below bR
  have HE := vers.lay hE
  clear hE
  by_cases hin : 0 ≤ n ∧ n < (es.length : Int)
  · obtain ⟨k, rfl⟩ := Int.eq_ofNat_of_zero_le hin.1
    have hk : k < es.length := by omega
    obtain ⟨b, off, rfl, hbl, y0, y1, hV⟩ := hER.at_ hk
    have hs := (hER.2.2.2.2 _ (List.getElem_mem hk)).2
    have HN := vers.lay (nthP_yes (la := es) rfl hk)
    clear hER hin hn
    have blt : b < WR.heap.size := by have := bR.size; omega
    generalize es[k] = x at y0 y1 HN hs hV
    obtain ⟨xs, xl, xA, xc⟩ := x
    simp only [] at y0 y1 hs hV
    go_enter Try.func34, Try.ntmps34
    go_wp2_with fail
    · have hvz : Vs ((WR.setCell ⟨w.heap.size, 0, none⟩ (.string xs)).setCell ⟨w.heap.size, 1, none⟩ (.slice xA xl.length xc)) w.heap.size xl xA xc := hV.below (((Below.refl _ _).setCell (p := ⟨w.heap.size, 0, none⟩) (Nat.le_refl _) _).setCell (p := ⟨w.heap.size, 1, none⟩) (Nat.le_refl _) _)
      have kz := (kF.put 0 (.string xs)).put 1 (.slice xA xl.length xc)
      have bz := (bR.setCell (p := ⟨w.heap.size, 0, none⟩) (Nat.le_refl _) (.string xs)).setCell (p := ⟨w.heap.size, 1, none⟩) (Nat.le_refl _) (.slice xA xl.length xc)
      simp only [List.setIfInBounds_toArray, List.set_cons_zero, List.set_cons_succ] at kz
      generalize (WR.setCell ⟨w.heap.size, 0, none⟩ (.string xs)).setCell ⟨w.heap.size, 1, none⟩ (.slice xA xl.length xc) = wX at *
      have z0 := kz.cell 0
      have z1 := kz.cell 1
      simp only [List.getElem?_toArray, List.getElem?_cons_zero, List.getElem?_cons_succ] at z0 z1
      refine bodyPost_ret (v := .tuple #[.agg #[.string xs, .slice xA xl.length xc], .bool true]) (by simp [results, Try.results34, go_sem, z0, z1]) rfl ?_
      rw [HN.out]
      exact ⟨bz, ⟨xs, xl, xA, xc⟩, rfl, rfl, hvz.more bz.size, hs⟩

  · have HN := vers.lay (nthP_no (la := es) rfl (n := n) (by omega))
    clear hER
    by_cases h0 : n < 0
    · clear hin
      go_enter Try.func34, Try.ntmps34
      go_wp2_with fail
      have kz := (kF.put 0 (.string ⟨#[]⟩)).put 1 (.slice none 0 0)
      have bz := (bR.setCell (p := ⟨w.heap.size, 0, none⟩) (Nat.le_refl _) (.string ⟨#[]⟩)).setCell (p := ⟨w.heap.size, 1, none⟩) (Nat.le_refl _) (.slice none 0 0)
      simp only [List.setIfInBounds_toArray, List.set_cons_zero, List.set_cons_succ] at kz
      generalize (WR.setCell ⟨w.heap.size, 0, none⟩ (.string ⟨#[]⟩)).setCell ⟨w.heap.size, 1, none⟩ (.slice none 0 0) = wX at *
      have z0 := kz.cell 0
      have z1 := kz.cell 1
      simp only [List.getElem?_toArray, List.getElem?_cons_zero, List.getElem?_cons_succ] at z0 z1
      refine bodyPost_ret (v := .tuple #[.agg #[.string ⟨#[]⟩, .slice none 0 0], .bool false]) (by simp [results, Try.results34, go_sem, z0, z1]) rfl ?_
      rw [HN.out]
      exact ⟨bz, ⟨⟨#[]⟩, [], none, 0⟩, rfl, rfl, vs_zero _, by simp [ByteArray.size]⟩

    · have h1 : (es.length : Int) ≤ n := by omega
      have h2 : 0 ≤ n := by omega
      clear hin h0
      go_enter Try.func34, Try.ntmps34
      go_wp2_with fail
      have kz := (kF.put 0 (.string ⟨#[]⟩)).put 1 (.slice none 0 0)
      have bz := (bR.setCell (p := ⟨w.heap.size, 0, none⟩) (Nat.le_refl _) (.string ⟨#[]⟩)).setCell (p := ⟨w.heap.size, 1, none⟩) (Nat.le_refl _) (.slice none 0 0)
      simp only [List.setIfInBounds_toArray, List.set_cons_zero, List.set_cons_succ] at kz
      generalize (WR.setCell ⟨w.heap.size, 0, none⟩ (.string ⟨#[]⟩)).setCell ⟨w.heap.size, 1, none⟩ (.slice none 0 0) = wX at *
      have z0 := kz.cell 0
      have z1 := kz.cell 1
      simp only [List.getElem?_toArray, List.getElem?_cons_zero, List.getElem?_cons_succ] at z0 z1
      refine bodyPost_ret (v := .tuple #[.agg #[.string ⟨#[]⟩, .slice none 0 0], .bool false]) (by simp [results, Try.results34, go_sem, z0, z1]) rfl ?_
      rw [HN.out]
      exact ⟨bz, ⟨⟨#[]⟩, [], none, 0⟩, rfl, rfl, vs_zero _, by simp [ByteArray.size]⟩

theorem lastP_snoc (L : List PE) (y : PE) : lastP (L ++ [y]) = (y, true) := by unfold lastP; rw [List.getLast?_concat]
theorem upP_yes {f : ByteArray → Bool} {es : List E} {j : Nat} (hj : j < es.length) (h : f es[j].s = true) : lastP (((es.take (j + 1)).map pe).filter fun y => f y.1) = (pe es[j], true) := by
  rw [← filtE_pe, filtE_yes hj h, List.map_append]
  exact lastP_snoc _ _
theorem upP_no {f : ByteArray → Bool} {es : List E} {j : Nat} (hj : j < es.length) (h : f es[j].s = false) : lastP (((es.take (j + 1)).map pe).filter fun y => f y.1) = lastP (((es.take j).map pe).filter fun y => f y.1) := by
  rw [← filtE_pe, filtE_no hj h, filtE_pe]

set_option maxRecDepth 100000 in
set_option maxHeartbeats 4000000 in
theorem refFloor_ok (es : List E) (A : Option Addr) (c : Nat) (ta : ByteArray) (w : World) (hE : Es w w.heap.size es A c) (hlen : es.length ≤ 1000) :
    Calls Try.prog 36 #[.slice A es.length c, .string ta] w (RefOne w (lastP ((es.map pe).filter fun y => upTo ta y.1))) := by
  have bR : Below w.heap.size w ((w.alloc (.cells #[.string ⟨#[]⟩, .slice none 0 0] 58)).alloc (.cells #[.string ⟨#[]⟩, .slice none 0 0] 58)) := ((Below.refl _ _).alloc (Nat.le_refl _) _).alloc (by simp) _
  have kF := (Blk.new w 58 #[.string ⟨#[]⟩, .slice none 0 0]).alloc (.cells #[.string ⟨#[]⟩, .slice none 0 0] 58)
  have kG := Blk.new (w.alloc (.cells #[.string ⟨#[]⟩, .slice none 0 0] 58)) 58 #[.string ⟨#[]⟩, .slice none 0 0]
  rw [World.size_alloc] at kG
  have HE := vers.lay hE
  clear hE
  go_enter Try.func36, Try.ntmps36
  go_wp2_with fail
  generalize (w.alloc (.cells #[.string ⟨#[]⟩, .slice none 0 0] 58)).alloc (.cells #[.string ⟨#[]⟩, .slice none 0 0] 58) = W0 at *
  go_loopw [13, 7] (fun i d wr => ∃ (j : Nat) (f : E) (bb : Bool), j ≤ es.length ∧ i = .int .i64 (j : Int) ∧ d = .bool bb ∧ Below w.heap.size w wr ∧ Blk wr w.heap.size 58 #[.string ⟨#[]⟩, .slice none 0 0] ∧ Blk wr (w.heap.size + 1) 58 #[.string f.s, .slice f.A f.l.length f.c] ∧ Hid ((pe f, bb) = lastP (((es.take j).map pe).filter fun y => upTo ta y.1) ∧ Vs wr w.heap.size f.l f.A f.c ∧ f.s.size ≤ maxLen)) (fun i _ _ => es.length - (intOf i).toNat)
  case atStart => exact ⟨0, ⟨⟨#[]⟩, [], none, 0⟩, false, Nat.zero_le _, rfl, rfl, bR, kF, kG, vers.lay ⟨rfl, ⟨Nat.le_refl _, by simp, fun _ => rfl, Rd.nil _ _ _, fun x hx => by cases hx⟩, by simp [ByteArray.size]⟩⟩
  case round =>
    clear kF kG bR
    obtain ⟨j, f, bb, hj, rfl, rfl, hb, kFr, kGr, hf⟩ := hrel
    by_cases hlt : j < es.length
    · obtain ⟨bk, off, rfl, hbk, x0, x1, hV⟩ := (HE.out.below hb).at_ hlt
      have hs := (HE.out.2.2.2.2 _ (List.getElem_mem hlt)).2
      obtain ⟨x, hx⟩ : ∃ x, x = es[j] := ⟨_, rfl⟩
      rw [← hx] at x0 x1 hV hs
      have HX := vers.lay hx.symm
      clear hx
      obtain ⟨xs, xl, xA, xc⟩ := x
      simp only [] at x0 x1 hV hs
      have bX : Below wr.heap.size wr (wr.alloc (.cells #[.string xs, .slice xA xl.length xc] 58)) := (Below.refl _ _).alloc (Nat.le_refl _) _
      have kX := Blk.new wr 58 #[.string xs, .slice xA xl.length xc]
      have hbs := hb.size
      have hbX0 := bX
      have hbX := hb.trans (bX.mono hbs)
      have HV := vers.lay (hV.below (bX.mono hbs))
      have lg := kGr.lt
      have kFr := kFr.below bX kFr.lt
      have kGr := kGr.below bX kGr.lt
      clear hV
      generalize hWX : wr.alloc (.cells #[.string xs, .slice xA xl.length xc] 58) = WX at *
      have q0 := kX.cell 0
      have q1 := kX.cell 1
      have u0 := kGr.cell 0
      have u1 := kGr.cell 1
      have f0 := kGr.frozen 0
      have f1 := kGr.frozen 1
      simp only [List.getElem?_toArray, List.getElem?_cons_zero, List.getElem?_cons_succ] at q0 q1 u0 u1
      have lX := kX.lt
      have lGX := kGr.lt
      have nxg : wr.heap.size ≠ w.heap.size + 1 := by omega
      cases ha : ltS ta xs with
      | true =>
        obtain ⟨g1, g2, g3, g4⟩ := clt ha
        have hfx : upTo ta xs = false := by unfold upTo; rw [ha]; rfl
        clear ha
        go_wp2_with fail
        refine ⟨⟨j + 1, f, bb, hlt, by go_num, rfl, hbX, kFr, kGr, vers.lay ⟨by rw [upP_no hlt (by rw [HX.out]; exact hfx)]; exact hf.out.1, hf.out.2.1.below (hbX0.mono hbs), hf.out.2.2⟩⟩, by first | (simp [intOf]; done) | (simp [intOf]; omega) | omega⟩
      | false =>
        have hfx : upTo ta xs = true := by unfold upTo; rw [ha]; rfl
        cases ha2 : ltS xs ta with
        | true =>
          obtain ⟨g1, g2, g3, g4⟩ := clt ha2
          clear ha ha2
          go_wp2_with fail
          have kg := (kGr.put 0 (.string xs)).put 1 (.slice xA xl.length xc)
          have b9 := (hbX.setCell (p := ⟨w.heap.size + 1, 0, none⟩) (by show _ ≤ w.heap.size + 1; omega) (.string xs)).setCell (p := ⟨w.heap.size + 1, 1, none⟩) (by show _ ≤ w.heap.size + 1; omega) (.slice xA xl.length xc)
          have k9 := (kFr.far (p := ⟨w.heap.size + 1, 0, none⟩) (by show w.heap.size ≠ w.heap.size + 1; omega) (.string xs)).far (p := ⟨w.heap.size + 1, 1, none⟩) (by show w.heap.size ≠ w.heap.size + 1; omega) (.slice xA xl.length xc)
          simp only [List.setIfInBounds_toArray, List.set_cons_zero, List.set_cons_succ] at kg
          refine ⟨⟨j + 1, ⟨xs, xl, xA, xc⟩, true, hlt, by go_num, rfl, b9, k9, kg, vers.lay ⟨by rw [upP_yes hlt (by rw [HX.out]; exact hfx), HX.out], HV.out.below (((Below.refl w.heap.size WX).setCell (p := ⟨w.heap.size + 1, 0, none⟩) (by show _ ≤ w.heap.size + 1; omega) _).setCell (p := ⟨w.heap.size + 1, 1, none⟩) (by show _ ≤ w.heap.size + 1; omega) _), hs⟩⟩, by first | (simp [intOf]; done) | (simp [intOf]; omega) | omega⟩
        | false =>
          obtain rfl : xs = ta := ltS_total ha2 ha
          obtain ⟨g1, g2⟩ := ceq xs
          clear ha ha2
          go_wp2_with fail
          have kg := (kGr.put 0 (.string xs)).put 1 (.slice xA xl.length xc)
          have b9 := (hbX.setCell (p := ⟨w.heap.size + 1, 0, none⟩) (by show _ ≤ w.heap.size + 1; omega) (.string xs)).setCell (p := ⟨w.heap.size + 1, 1, none⟩) (by show _ ≤ w.heap.size + 1; omega) (.slice xA xl.length xc)
          have k9 := (kFr.far (p := ⟨w.heap.size + 1, 0, none⟩) (by show w.heap.size ≠ w.heap.size + 1; omega) (.string xs)).far (p := ⟨w.heap.size + 1, 1, none⟩) (by show w.heap.size ≠ w.heap.size + 1; omega) (.slice xA xl.length xc)
          simp only [List.setIfInBounds_toArray, List.set_cons_zero, List.set_cons_succ] at kg
          refine ⟨⟨j + 1, ⟨xs, xl, xA, xc⟩, true, hlt, by go_num, rfl, b9, k9, kg, vers.lay ⟨by rw [upP_yes hlt (by rw [HX.out]; exact hfx), HX.out], HV.out.below (((Below.refl w.heap.size WX).setCell (p := ⟨w.heap.size + 1, 0, none⟩) (by show _ ≤ w.heap.size + 1; omega) _).setCell (p := ⟨w.heap.size + 1, 1, none⟩) (by show _ ≤ w.heap.size + 1; omega) _), hs⟩⟩, by first | (simp [intOf]; done) | (simp [intOf]; omega) | omega⟩
    · obtain rfl : j = es.length := by omega
      have HN := vers.lay (hf.out.1.trans (by rw [List.take_length]))
      have HVs := vers.lay hf.out.2
      clear hf
      obtain ⟨fs, fl, fA, fc⟩ := f
      simp only [] at kGr
      have lE := kFr.lt
      have lG := kGr.lt
      have f0 := kFr.frozen 0
      have f1 := kFr.frozen 1
      have e0 := kFr.cell 0
      have e1 := kFr.cell 1
      have u0 := kGr.cell 0
      have u1 := kGr.cell 1
      simp only [List.getElem?_toArray, List.getElem?_cons_zero, List.getElem?_cons_succ] at e0 e1 u0 u1
      have kF := kFr
      go_wp2_with fail
      have hvz : Vs ((wr.setCell ⟨w.heap.size, 0, none⟩ (.string fs)).setCell ⟨w.heap.size, 1, none⟩ (.slice fA fl.length fc)) w.heap.size fl fA fc := HVs.out.1.below (((Below.refl _ _).setCell (p := ⟨w.heap.size, 0, none⟩) (Nat.le_refl _) _).setCell (p := ⟨w.heap.size, 1, none⟩) (Nat.le_refl _) _)
      have kz := (kF.put 0 (.string fs)).put 1 (.slice fA fl.length fc)
      have bz := (hb.setCell (p := ⟨w.heap.size, 0, none⟩) (Nat.le_refl _) (.string fs)).setCell (p := ⟨w.heap.size, 1, none⟩) (Nat.le_refl _) (.slice fA fl.length fc)
      simp only [List.setIfInBounds_toArray, List.set_cons_zero, List.set_cons_succ] at kz
      generalize (wr.setCell ⟨w.heap.size, 0, none⟩ (.string fs)).setCell ⟨w.heap.size, 1, none⟩ (.slice fA fl.length fc) = wX at *
      have z0 := kz.cell 0
      have z1 := kz.cell 1
      simp only [List.getElem?_toArray, List.getElem?_cons_zero, List.getElem?_cons_succ] at z0 z1
      refine bodyPost_ret (v := .tuple #[.agg #[.string fs, .slice fA fl.length fc], .bool bb]) (by simp [results, Try.results36, go_sem, z0, z1]) rfl ?_
      rw [← HN.out]
      exact ⟨bz, ⟨fs, fl, fA, fc⟩, rfl, rfl, hvz.more bz.size, HVs.out.2⟩

def inL (s : ByteArray) (l : List ByteArray) : Bool := l.any fun t => decide (t = s)
theorem inL_iff {s : ByteArray} {l : List ByteArray} : inL s l = true ↔ s ∈ l := by
  unfold inL
  rw [List.any_eq_true]
  exact ⟨fun ⟨t, h1, h2⟩ => by rw [← of_decide_eq_true h2]; exact h1, fun h => ⟨s, h, decide_eq_true rfl⟩⟩

set_option maxRecDepth 100000 in
set_option maxHeartbeats 4000000 in
theorem in_ok (l : List ByteArray) (A : Option Addr) (c : Nat) (s : ByteArray) (w : World) (hT : Ts w w.heap.size l A c) :
    Calls Try.prog 45 #[.slice A l.length c, .string s] w fun e w' => e = .returned (.bool (inL s l)) ∧ w' = w := by
  have hlen : l.length ≤ 140737488355328 := by have := hT.2.1; omega
  obtain ⟨v, hv⟩ : ∃ v, v = inL s l := ⟨_, rfl⟩
  rw [← hv]
  have HV := vers.lay hv
  clear hv
  go_enter Try.func45, Try.ntmps45
  go_wp2_with fail
  go_loopw [9] (fun i wr => ∃ j : Nat, j ≤ l.length ∧ i = .int .i64 (j : Int) ∧ wr = w ∧ Hid (s ∉ l.take j)) (fun i _ => l.length - (intOf i).toNat)
  case atStart => exact ⟨0, Nat.zero_le _, rfl, rfl, vers.lay (by simp)⟩
  case round =>
    obtain ⟨j, hj, rfl, rfl, hH⟩ := hrel
    by_cases hlt : j < l.length
    · obtain ⟨b, off, rfl, hbk, e0⟩ := hT.at_ hlt
      by_cases he : l[j] = s
      · have HY := vers.lay (show v = true by rw [HV.out, inL_iff, ← he]; exact List.getElem_mem hlt)
        rw [he] at e0
        clear he
        go_wp2_with fail
        go_ret
        exact ⟨by rw [HY.out]; rfl, rfl⟩
      · have HN := vers.lay (show s ∉ l.take (j + 1) by rw [List.take_succ_eq_append_getElem hlt, List.mem_append, List.mem_singleton]; exact fun h => h.elim hH.out (fun h => he h.symm))
        have g1 : (l[j].toList == s.toList) = false := by
          rw [beq_eq_false_iff_ne, Lib.toList_data, Lib.toList_data]
          exact fun h => he (name_ext h)
        clear he
        generalize l[j] = t at *
        go_wp2_with fail
        exact ⟨⟨j + 1, hlt, by go_num, by trivial, HN⟩, by first | (simp [intOf]; done) | (simp [intOf]; omega) | omega⟩
    · obtain rfl : j = l.length := by omega
      have HN := vers.lay (show v = false by rw [HV.out, Bool.eq_false_iff, Ne, inL_iff]; have := hH.out; rwa [List.take_length] at this)
      go_wp2_with fail
      go_ret
      exact ⟨by rw [HN.out]; rfl, rfl⟩

end Go.Proofs.Ytchghlbiongccaa.trees
