/- The law TreeFresh. -/
import Derived.Test.YtnndohdiiglgmaaKTfC
import Derived.Test.YtnndohdiiglgmaaKTuA
import Derived.Deep.CutRange


namespace Go.Proofs.Ytnndohdiiglgmaa.trees
set_option linter.unusedVariables false
set_option linter.unusedSimpArgs false
open Go.RowKit Go.Proofs.Ytnndohdiiglgmaa.base Go.Proofs.Ytnndohdiiglgmaa.vers Go.Proofs.Ytnndohdiiglgmaa.nodes Go.Proofs.Ytnndohdiiglgmaa.quotas

theorem Rt.empty : Rt [(true, [], [])] (refOf 0) 0 [] (true, [], []) := ⟨pageAt_new [] [(true, [], [])] 0 _ rfl, rfl, by simp [partsP], fun h => by omega, List.Pairwise.nil, 0, rfl, by simp⟩
theorem there_next {l : List SN} {q : Nat} (hq : q < l.length) (r : R) : there ((l.take (q + 1)).map (·.2.1)) r = (there ((l.take q).map (·.2.1)) r || decide (l[q].2.1 = r)) := by
  rw [List.take_succ_eq_append_getElem hq, List.map_append]
  unfold there
  rw [List.any_append]
  simp
def cntN (O : List R) (l : List SN) : Nat := l.countP fun s => !there O s.2.1
theorem cntN_next {O : List R} {l : List SN} {k : Nat} (hk : k < l.length) : cntN O (l.take (k + 1)) = cntN O (l.take k) + (if there O l[k].2.1 then 0 else 1) := by
  rw [List.take_succ_eq_append_getElem hk]
  unfold cntN
  rw [List.countP_append, List.countP_singleton]
  cases there O l[k].2.1 <;> rfl
theorem cntN_map (O : List R) (l : List SN) : cntN O l = (l.map (·.2.1)).countP fun q => !there O q := by
  unfold cntN
  rw [List.countP_map]
  rfl

set_option maxRecDepth 100000 in
set_option maxHeartbeats 16000000 in
theorem law_treeFresh (l : List TO) (A : Option Addr) (c : Nat) (w : World) (hT : Tos w w.heap.size l A c) :
    Calls Try.prog 6 #[.slice A l.length c] w fun e w' => e = .returned (.bool true) ∧ Below w.heap.size w w' := by
  have hn := newHeap_any w
  go_enter Try.func6, Try.ntmps6
  go_wp2_with fail
  refine hn.mono ?_
  rintro e w1 ⟨h, rfl, hh, hH, hb1⟩
  have he := empty_ok h (fun g => g = h) [] w1 hH (by simp)
  simp only [List.nil_append, List.length_nil] at he
  obtain ⟨rr, hrr⟩ : ∃ rr, rr = refOf 0 := ⟨_, rfl⟩
  rw [← hrr] at he
  have HRR := vers.lay hrr
  clear hrr hn
  obtain ⟨rk, rg, ro, rn⟩ := rr
  go_wp2_with fail
  refine he.mono ?_
  rintro e w2 ⟨S', rfl, hH2, hS2, hK2⟩
  clear he
  have b2 : Below w.heap.size w w2 := hb1.trans (hK2.below (fun g hg => by omega) hb1.size)
  have lo2 : ∀ g, S' g → w.heap.size ≤ g := fun g hg => by rcases hS2 g hg with h1 | h1 <;> (have := hb1.size; omega)
  have b3 : Below w2.heap.size w2 (w2.alloc (.cells #[.int .u64 (rk : Int), .int .i64 rg, .int .i64 ro, .int .i64 rn] 27)) := (Below.refl _ _).alloc (Nat.le_refl _) _
  have kb3 := Blk.new w2 27 #[.int .u64 (rk : Int), .int .i64 rg, .int .i64 ro, .int .i64 rn]
  have b30 := b2.trans (b3.mono b2.size)
  have hI0 : FI w h w2.heap.size S' [(true, [], [])] ⟨rk, rg, ro, rn⟩ 0 [] (true, [], []) (w2.alloc (.cells #[.int .u64 (rk : Int), .int .i64 rg, .int .i64 ro, .int .i64 rn] 27)) :=
    ⟨b30, hH2.below b3, lo2, fun hs => Nat.lt_irrefl _ (hH2.lt _ hs), kb3, b2.size, by rw [HRR.out]; exact Rt.empty⟩
  have hshr := shortT_any l A c 60 (by omega) (w2.alloc (.cells #[.int .u64 (rk : Int), .int .i64 rg, .int .i64 ro, .int .i64 rn] 27)) (hT.at_world b30)
  have hlm : (l.take 60).length ≤ 60 := by rw [List.length_take]; omega
  have hX := hT.take (k := (l.take 60).length) (by rw [List.length_take]; omega)
  rw [show l.take (l.take 60).length = l.take 60 by rw [List.length_take]; rcases Nat.lt_or_ge l.length 60 with h9 | h9; (rw [Nat.min_eq_right (by omega), List.take_of_length_le (Nat.le_refl _), List.take_of_length_le (by omega)]); (rw [Nat.min_eq_left h9])] at hX
  rw [show ((60 : Nat) : Int) = 60 from rfl] at hshr
  generalize l.take 60 = lm at *
  clear hT hH2 hS2 hK2 b2 b3 b30 lo2 kb3 hb1 hh hH
  generalize hW3 : w2.alloc (.cells #[.int .u64 (rk : Int), .int .i64 rg, .int .i64 ro, .int .i64 rn] 27) = W3 at *
  go_wp2_with fail
  refine hshr.mono ?_
  rintro e wsh ⟨rfl, rfl⟩
  clear hshr
  generalize w2.heap.size = rb at *
  have hI0 := vers.lay hI0
  go_wp2_with fail
  go_loopw [35] (fun i wr => ∃ (j : Nat) (S : Nat → Prop) (ns : List P3) (r : R) (ht : Nat) (L : List PE) (x : P3), j ≤ lm.length ∧ i = .int .i64 (j : Int) ∧ Hid (FI w h rb S ns r ht L x wr) ∧ L.length ≤ j ∧ ns.length ≤ 1 + 17 * j) (fun i _ => lm.length - (intOf i).toNat)
  case atStart => exact ⟨0, S', _, _, 0, [], _, Nat.zero_le _, rfl, hI0, Nat.le_refl _, by simp⟩
  case round =>
    clear hI0 HRR hW3
    obtain ⟨j, S, ns, r, ht, L, y0, hj, rfl, HF, hLj, hnsj⟩ := hrel
    by_cases hlt : j < lm.length
    · skip
      have hF := HF.out
      obtain ⟨bk, off, rfl, hbk, x0, x1, x2, x3, x4⟩ := (hX.below hF.below).at_ hlt
      have hfx := hX.2.2.2.2 _ (List.getElem_mem hlt)
      have HJM := vers.lay (show j + 1 ≤ lm.length from hlt)
      have HXS := vers.lay hX
      clear hX
      generalize lm[j] = x at x0 x1 x2 x3 x4 hfx
      obtain ⟨xk, xn, xv, xA, xm, xc, xb⟩ := x
      simp only [] at x0 x1 x2 x3 x4
      have hfn : xn.size ≤ maxLen := hfx.1
      have hfv : xv.size ≤ maxLen := hfx.2
      clear hfx
      have hht := hF.rt.low (by omega)
      have hfit := hF.rt.fits (by omega)
      have bX : Below wr.heap.size wr (wr.alloc (.cells #[.int .i64 xk, .string xn, .string xv, .slice xA xm xc, .int .i64 xb] 36)) := (Below.refl _ _).alloc (Nat.le_refl _) _
      have kX := Blk.new wr 36 #[.int .i64 xk, .string xn, .string xv, .slice xA xm xc, .int .i64 xb]
      have hFX := hF.next bX
      have HSL := vers.lay hF.hp.lt
      have hlen := len_any h S ns _ hFX.hp
      have hall := allT_ok h S ns ht r y0 L _ hFX.hp hfit hF.rt.page hF.rt.tree hF.rt.p4 (by omega)
      have HRT := vers.lay hF.rt
      have kbX := hFX.kb
      have sX : wr.heap.size < (wr.alloc (.cells #[.int .i64 xk, .string xn, .string xv, .slice xA xm xc, .int .i64 xb] 36)).heap.size := by simp
      have lwr := hF.below.size
      have HFX := vers.lay hFX
      clear hF HF hFX
      obtain ⟨rk, rg, ro, rn⟩ := r
      generalize hWX : wr.alloc (.cells #[.int .i64 xk, .string xn, .string xv, .slice xA xm xc, .int .i64 xb] 36) = WX at *
      have b0 := kbX.cell 0
      have b1 := kbX.cell 1
      have b2 := kbX.cell 2
      have b3 := kbX.cell 3
      simp only [List.getElem?_toArray, List.getElem?_cons_zero, List.getElem?_cons_succ] at b0 b1 b2 b3
      have lrb := kbX.lt
      go_wp2_with fail
      refine hlen.mono ?_
      rintro e wl ⟨rfl, rfl⟩
      clear hlen
      go_wp2_with fail
      refine hall.mono ?_
      rintro e wA ⟨hbA, sl, v9, rfl, hsl, hSn⟩
      clear hall b0 b1 b2 b3
      have lA := hbA.size
      have hFA := HFX.out.next hbA
      have hSR : SRow wA S v9 sl := ⟨hSn.1, fun g hg hS => by have := (hSn.2.1 g hg).1; have := HSL.out g hS; omega⟩
      obtain ⟨Ay, cy, rfl, _, _, _⟩ := row_rdF hSn.1
      have hO : sl.map (·.2.1) = ⟨rk, rg, ro, rn⟩ :: refsP ns ht y0 := by rw [← HRT.out.seen, ← hsl, List.map_map]; rfl
      have HO := vers.lay hO
      have hsll : sl.length ≤ 625 := by
        rw [← List.length_map (f := psn), hsl]
        have h5 := seenP_len ht ⟨rk, rg, ro, rn⟩ 1 y0 L HRT.out.tree HRT.out.p4
        have h6 : 5 ^ ht ≤ 5 ^ 4 := Nat.pow_le_pow_right (by omega) (by omega)
        have : (5 : Nat) ^ 4 = 625 := rfl
        omega
      clear hSn hsl hO
      have kXA := kX.below hbA kX.lt
      have bR : Below wA.heap.size wA (wA.alloc (.cells #[.int .u64 (rk : Int), .int .i64 rg, .int .i64 ro, .int .i64 rn] 27)) := (Below.refl _ _).alloc (Nat.le_refl _) _
      have kR := Blk.new wA 27 #[.int .u64 (rk : Int), .int .i64 rg, .int .i64 ro, .int .i64 rn]
      have kXR := kXA.below bR kXA.lt
      have kbR := hFA.kb.below bR hFA.kb.lt
      have lwA := kXA.lt
      have sR : wA.heap.size < (wA.alloc (.cells #[.int .u64 (rk : Int), .int .i64 rg, .int .i64 ro, .int .i64 rn] 27)).heap.size := by simp
      have HSR := vers.lay hSR
      have hpR := hFA.hp.below bR
      have hKR : Keep S wA (wA.alloc (.cells #[.int .u64 (rk : Int), .int .i64 rg, .int .i64 ro, .int .i64 rn] 27)) := Keep.of_below bR
      have HKR := vers.lay hKR
      have hBA := hFA.kb
      have HFA := vers.lay hFA
      clear hFA hSR kX kXA kbX hKR bX bR hbA
      have kbA := hBA.lt
      have b0 := hBA.cell 0
      have b1 := hBA.cell 1
      have b2 := hBA.cell 2
      have b3 := hBA.cell 3
      simp only [List.getElem?_toArray, List.getElem?_cons_zero, List.getElem?_cons_succ] at b0 b1 b2 b3
      generalize hWR : wA.alloc (.cells #[.int .u64 (rk : Int), .int .i64 rg, .int .i64 ro, .int .i64 rn] 27) = WR at *
      have q0 := kXR.cell 0
      have q1 := kXR.cell 1
      have q2 := kXR.cell 2
      have q3 := kXR.cell 3
      have q4 := kXR.cell 4
      simp only [List.getElem?_toArray, List.getElem?_cons_zero, List.getElem?_cons_succ] at q0 q1 q2 q3 q4
      have c0 := kbR.cell 0
      have c1 := kbR.cell 1
      have c2 := kbR.cell 2
      have c3 := kbR.cell 3
      simp only [List.getElem?_toArray, List.getElem?_cons_zero, List.getElem?_cons_succ] at c0 c1 c2 c3
      have lXR := kXR.lt
      have lbR := kbR.lt
      have lgR := kR.lt
      go_upto_if 51 with (fail)
      clear hWR hWX
      generalize (xk == 1) = bb
      generalize wr.heap.size = bx at *
      obtain ⟨g11, hg11⟩ : ∃ g11, wA.heap.size = g11 := ⟨_, rfl⟩
      have hg11' := vers.lay hg11
      rw [hg11] at kR sR lgR ⊢
      clear hg11
      go_cut [12] from 52 to 70 (fun a wx => a = .int .i64 0 ∧ ∃ (m : List P3) (r' : R) (h' : Nat) (L' : List PE) (x' : P3) (S' : Nat → Prop), Hid (FI w h rb S' (ns ++ m) ⟨rk, rg, ro, rn⟩ ht L y0 wx ∧ UB wx S' g11 r' ∧ SRow wx S' (.slice Ay sl.length cy) sl) ∧ Hid (Rt (ns ++ m) r' h' L' x') ∧ L'.length ≤ L.length + 1 ∧ m.length ≤ 17 ∧ Hid (FrOk ns.length (⟨rk, rg, ro, rn⟩ :: refsP ns ht y0) (r' :: refsP (ns ++ m) h' x') m.length))
      case first =>
        clear b0 b1 b2 b3 x0 x1 x2 x3 x4
        cases bb with
        | true =>
          obtain ⟨m, r', h', L', x', bb, hRt, hLl, hml, hFr, hdel⟩ := del_new h S HRT.out xn (by omega) (by omega) WR hpR
          obtain ⟨rk', rg', ro', rn'⟩ := r'
          have HRT2 := vers.lay hRt
          have HFR := vers.lay hFr
          have kRg := kR.lt
          clear hRt hFr
          go_wp2_with fail
          refine hdel.mono ?_
          rintro e wp ⟨S', rfl, hHp, hSp, hKp⟩
          clear hdel q0 q1 q2 q3 q4 c0 c1 c2 c3
          have nG0 : ¬ S g11 := fun hs => by have := HSL.out _ hs; have := hg11'.out; omega
          have kG := hKp.blk kR nG0
          have nG : ¬ S' g11 := fun h9 => (hSp _ h9).elim nG0 (fun h9 => by omega)
          have zP := hKp.size
          have p0 := kG.cell 0
          have p1 := kG.cell 1
          have p2 := kG.cell 2
          have p3 := kG.cell 3
          simp only [List.getElem?_toArray, List.getElem?_cons_zero, List.getElem?_cons_succ] at p0 p1 p2 p3
          have pf0 := kG.frozen 0
          have pf1 := kG.frozen 1
          have pf2 := kG.frozen 2
          have pf3 := kG.frozen 3
          have lG := kG.lt
          go_wp2_with fail
          have hK9 : Keep S wA wp := HKR.out.trans hKp (fun g hg _ => hg)
          have hF := four4_keep hK9 (g := g11) (by have := hg11'.out; omega) (.int .u64 (rk' : Int)) (.int .i64 rg') (.int .i64 ro') (.int .i64 rn')
          have hHF := hHp.four nG (.int .u64 (rk' : Int)) (.int .i64 rg') (.int .i64 ro') (.int .i64 rn')
          have kF := ((((kG.put 0 (.int .u64 (rk' : Int))).put 1 (.int .i64 rg')).put 2 (.int .i64 ro')).put 3 (.int .i64 rn'))
          simp only [List.setIfInBounds_toArray, List.set_cons_zero, List.set_cons_succ] at kF
          unfold four4 at hF hHF
          have hS9 : ∀ g, S' g → S g ∨ wA.heap.size ≤ g := fun g hg => (hSp g hg).imp id (fun h9 => by have := hg11'.out; omega)
          go_meet
          exact ⟨rfl, m, _, h', _, x', S', vers.lay ⟨HFA.out.keep hF hHF hS9, ⟨kF, nG⟩, HSR.out.keep hF hS9⟩, HRT2, by omega, by omega, HFR⟩
        | false =>
          have hht0 := hht
          obtain ⟨m, r', h', x', hRt, hml, hFr, hput⟩ := put_new h S HRT.out xn [vOf xv] (by omega) hfn (by omega)
          obtain ⟨rk', rg', ro', rn'⟩ := r'
          have hLl : (withP L (xn, [vOf xv])).length ≤ L.length + 1 := (withP_len L (xn, [vOf xv])).2.1
          have HRT2 := vers.lay hRt
          have HFR := vers.lay hFr
          have kRg := kR.lt
          clear hRt hFr
          have nSb : ¬ S rb := HFA.out.rbn
          have nSx : ¬ S bx := fun hs => by have := HSL.out _ hs; omega
          have hsec := fun wx => secret_any ⟨xk, xn, xv, xA, xm, xc, xb⟩ wx
          go_upto_region 16 with (fail)
          have hbD : Below WR.heap.size WR WR.drew := (Below.refl _ _).drew
          have hS0 : Keep S WR WR.drew := Keep.of_below hbD
          refine mix.region_D (fun w' => Keep S WR w') (fun j => j == 7 || j == 8 || j == 9 || j == 10) (by kernel_rfl) ?_
          generalize WR.drew = Wd at hbD hS0 ⊢
          refine mix.D_takeT (i := 0) (v := ?_) rfl (by kernel_rfl) (by kernel_rfl) (fun _ _ _ h => h) (Or.inl ⟨by first | rfl | simp [Region.wanted, yielded], ?_⟩) hS0 ?_
          rotate_left
          · intro w' hSw
            have z0 := (hSw.cell (p := ⟨rb, 0, none⟩) lbR nSb).trans c0
            have z1 := (hSw.cell (p := ⟨rb, 1, none⟩) lbR nSb).trans c1
            have z2 := (hSw.cell (p := ⟨rb, 2, none⟩) lbR nSb).trans c2
            have z3 := (hSw.cell (p := ⟨rb, 3, none⟩) lbR nSb).trans c3
            have y0 := (hSw.cell (p := ⟨bx, 0, none⟩) lXR nSx).trans q0
            have y1 := (hSw.cell (p := ⟨bx, 1, none⟩) lXR nSx).trans q1
            have y2 := (hSw.cell (p := ⟨bx, 2, none⟩) lXR nSx).trans q2
            have y3 := (hSw.cell (p := ⟨bx, 3, none⟩) lXR nSx).trans q3
            have y4 := (hSw.cell (p := ⟨bx, 4, none⟩) lXR nSx).trans q4
            try simp only [List.getElem_toArray, List.getElem_cons_zero, List.getElem_cons_succ]
            go_simp
            exact rfl
          try simp only [Act.put, List.setIfInBounds_toArray, List.set_cons_zero, List.set_cons_succ, List.getElem_toArray, List.getElem_cons_zero, List.getElem_cons_succ]
          refine mix.D_takeT (i := 1) (v := ?_) rfl (by kernel_rfl) (by kernel_rfl) (fun _ _ _ h => h) (Or.inl ⟨by first | rfl | simp [Region.wanted, yielded], ?_⟩) hS0 ?_
          rotate_left
          · intro w' hSw
            have z0 := (hSw.cell (p := ⟨rb, 0, none⟩) lbR nSb).trans c0
            have z1 := (hSw.cell (p := ⟨rb, 1, none⟩) lbR nSb).trans c1
            have z2 := (hSw.cell (p := ⟨rb, 2, none⟩) lbR nSb).trans c2
            have z3 := (hSw.cell (p := ⟨rb, 3, none⟩) lbR nSb).trans c3
            have y0 := (hSw.cell (p := ⟨bx, 0, none⟩) lXR nSx).trans q0
            have y1 := (hSw.cell (p := ⟨bx, 1, none⟩) lXR nSx).trans q1
            have y2 := (hSw.cell (p := ⟨bx, 2, none⟩) lXR nSx).trans q2
            have y3 := (hSw.cell (p := ⟨bx, 3, none⟩) lXR nSx).trans q3
            have y4 := (hSw.cell (p := ⟨bx, 4, none⟩) lXR nSx).trans q4
            try simp only [List.getElem_toArray, List.getElem_cons_zero, List.getElem_cons_succ]
            go_simp
            exact rfl
          try simp only [Act.put, List.setIfInBounds_toArray, List.set_cons_zero, List.set_cons_succ, List.getElem_toArray, List.getElem_cons_zero, List.getElem_cons_succ]
          refine mix.D_takeT (i := 2) (v := ?_) rfl (by kernel_rfl) (by kernel_rfl) (fun _ _ _ h => h) (Or.inl ⟨by first | rfl | simp [Region.wanted, yielded], ?_⟩) hS0 ?_
          rotate_left
          · intro w' hSw
            have z0 := (hSw.cell (p := ⟨rb, 0, none⟩) lbR nSb).trans c0
            have z1 := (hSw.cell (p := ⟨rb, 1, none⟩) lbR nSb).trans c1
            have z2 := (hSw.cell (p := ⟨rb, 2, none⟩) lbR nSb).trans c2
            have z3 := (hSw.cell (p := ⟨rb, 3, none⟩) lbR nSb).trans c3
            have y0 := (hSw.cell (p := ⟨bx, 0, none⟩) lXR nSx).trans q0
            have y1 := (hSw.cell (p := ⟨bx, 1, none⟩) lXR nSx).trans q1
            have y2 := (hSw.cell (p := ⟨bx, 2, none⟩) lXR nSx).trans q2
            have y3 := (hSw.cell (p := ⟨bx, 3, none⟩) lXR nSx).trans q3
            have y4 := (hSw.cell (p := ⟨bx, 4, none⟩) lXR nSx).trans q4
            try simp only [List.getElem_toArray, List.getElem_cons_zero, List.getElem_cons_succ]
            go_simp
            exact rfl
          try simp only [Act.put, List.setIfInBounds_toArray, List.set_cons_zero, List.set_cons_succ, List.getElem_toArray, List.getElem_cons_zero, List.getElem_cons_succ]
          refine mix.D_takeT (i := 3) (v := ?_) rfl (by kernel_rfl) (by kernel_rfl) (fun _ _ _ h => h) (Or.inl ⟨by first | rfl | simp [Region.wanted, yielded], ?_⟩) hS0 ?_
          rotate_left
          · intro w' hSw
            have z0 := (hSw.cell (p := ⟨rb, 0, none⟩) lbR nSb).trans c0
            have z1 := (hSw.cell (p := ⟨rb, 1, none⟩) lbR nSb).trans c1
            have z2 := (hSw.cell (p := ⟨rb, 2, none⟩) lbR nSb).trans c2
            have z3 := (hSw.cell (p := ⟨rb, 3, none⟩) lbR nSb).trans c3
            have y0 := (hSw.cell (p := ⟨bx, 0, none⟩) lXR nSx).trans q0
            have y1 := (hSw.cell (p := ⟨bx, 1, none⟩) lXR nSx).trans q1
            have y2 := (hSw.cell (p := ⟨bx, 2, none⟩) lXR nSx).trans q2
            have y3 := (hSw.cell (p := ⟨bx, 3, none⟩) lXR nSx).trans q3
            have y4 := (hSw.cell (p := ⟨bx, 4, none⟩) lXR nSx).trans q4
            try simp only [List.getElem_toArray, List.getElem_cons_zero, List.getElem_cons_succ]
            go_simp
            exact rfl
          try simp only [Act.put, List.setIfInBounds_toArray, List.set_cons_zero, List.set_cons_succ, List.getElem_toArray, List.getElem_cons_zero, List.getElem_cons_succ]
          refine mix.D_op (k := 4) rfl rfl (by kernel_rfl) (fun K' hK => ?_)
          simp only [List.getElem_toArray, List.getElem_cons_zero, List.getElem_cons_succ]
          go_wp2_with fail
          refine (hsec Wd).mono ?_
          rintro e ws ⟨q, rfl, hq, hkq, hbs⟩
          have hbS : Below WR.heap.size WR ws := hbD.trans (hbs.mono hbD.size)
          have hS1 : Keep S WR ws := Keep.of_below hbS
          have zS1 := hbS.size
          refine hK.out _ _ (fun _ => hS1) ?_
          clear hK K'
          try simp only [Act.put, List.setIfInBounds_toArray, List.set_cons_zero, List.set_cons_succ]
          refine mix.D_op (k := 5) rfl rfl (by kernel_rfl) (fun K' hK => ?_)
          simp only [List.getElem_toArray, List.getElem_cons_zero, List.getElem_cons_succ]
          have hputc := hput ws (some ⟨q, 0, none⟩) 1 (hpR.below hbS) (vs_of_blk hkq hfv)
          simp only [List.length_singleton] at hputc
          go_wp2_with fail
          refine hputc.mono ?_
          clear hputc
          rintro e wp ⟨S', rfl, hHp, hSp0, hKp0⟩
          have hKp : Keep S WR wp := hS1.trans hKp0 (fun g hg _ => hg)
          have hSp : ∀ g, S' g → S g ∨ WR.heap.size ≤ g := fun g hg => (hSp0 g hg).imp id (fun h9 => by omega)
          refine hK.out _ _ (fun _ => hKp) ?_
          clear hK K'
          try simp only [Act.put, List.setIfInBounds_toArray, List.set_cons_zero, List.set_cons_succ]
          refine mix.D_takeT (i := 6) (v := ?_) rfl (by kernel_rfl) (by kernel_rfl) (fun _ _ _ h => h) (Or.inl ⟨by first | rfl | simp [Region.wanted, yielded], ?_⟩) hKp ?_
          rotate_left
          · intro w' hSw
            have z0 := (hSw.cell (p := ⟨rb, 0, none⟩) lbR nSb).trans c0
            have z1 := (hSw.cell (p := ⟨rb, 1, none⟩) lbR nSb).trans c1
            have z2 := (hSw.cell (p := ⟨rb, 2, none⟩) lbR nSb).trans c2
            have z3 := (hSw.cell (p := ⟨rb, 3, none⟩) lbR nSb).trans c3
            have y0 := (hSw.cell (p := ⟨bx, 0, none⟩) lXR nSx).trans q0
            have y1 := (hSw.cell (p := ⟨bx, 1, none⟩) lXR nSx).trans q1
            have y2 := (hSw.cell (p := ⟨bx, 2, none⟩) lXR nSx).trans q2
            have y3 := (hSw.cell (p := ⟨bx, 3, none⟩) lXR nSx).trans q3
            have y4 := (hSw.cell (p := ⟨bx, 4, none⟩) lXR nSx).trans q4
            try simp only [List.getElem_toArray, List.getElem_cons_zero, List.getElem_cons_succ]
            go_simp
            exact rfl
          try simp only [Act.put, List.setIfInBounds_toArray, List.set_cons_zero, List.set_cons_succ, List.getElem_toArray, List.getElem_cons_zero, List.getElem_cons_succ]
          refine mix.D_takeF (i := 7) (v := ?_) rfl (by kernel_rfl) (by kernel_rfl) (fun _ _ _ h => h) (Or.inl ⟨by first | rfl | simp [Region.wanted, yielded], ?_⟩) ?_
          rotate_left
          · intro w' _
            try simp only [List.getElem_toArray, List.getElem_cons_zero, List.getElem_cons_succ]
            go_simp
            exact rfl
          try simp only [Act.put, List.setIfInBounds_toArray, List.set_cons_zero, List.set_cons_succ, List.getElem_toArray, List.getElem_cons_zero, List.getElem_cons_succ]
          refine mix.D_takeF (i := 8) (v := ?_) rfl (by kernel_rfl) (by kernel_rfl) (fun _ _ _ h => h) (Or.inl ⟨by first | rfl | simp [Region.wanted, yielded], ?_⟩) ?_
          rotate_left
          · intro w' _
            try simp only [List.getElem_toArray, List.getElem_cons_zero, List.getElem_cons_succ]
            go_simp
            exact rfl
          try simp only [Act.put, List.setIfInBounds_toArray, List.set_cons_zero, List.set_cons_succ, List.getElem_toArray, List.getElem_cons_zero, List.getElem_cons_succ]
          refine mix.D_op (k := 9) rfl rfl (by kernel_rfl) (fun K' hK => ?_)
          simp only [List.getElem_toArray, List.getElem_cons_zero, List.getElem_cons_succ]
          have nG0 : ¬ S g11 := fun hs => by have := HSL.out _ hs; have := hg11'.out; omega
          have kG := hKp.blk kR nG0
          have nG : ¬ S' g11 := fun h9 => (hSp _ h9).elim nG0 (fun h9 => by omega)
          have zP := hKp.size
          have p0 := kG.cell 0
          have p1 := kG.cell 1
          have p2 := kG.cell 2
          have p3 := kG.cell 3
          simp only [List.getElem?_toArray, List.getElem?_cons_zero, List.getElem?_cons_succ] at p0 p1 p2 p3
          have pf0 := kG.frozen 0
          have pf1 := kG.frozen 1
          have pf2 := kG.frozen 2
          have pf3 := kG.frozen 3
          have lG := kG.lt
          go_wp2_with fail
          refine hK.out _ _ (fun h => by simp at h) ?_
          clear hK K'
          try simp only [Act.put, List.setIfInBounds_toArray, List.set_cons_zero, List.set_cons_succ]
          refine mix.D_op (k := 10) rfl rfl (by kernel_rfl) (fun K' hK => ?_)
          simp only [List.getElem_toArray, List.getElem_cons_zero, List.getElem_cons_succ]
          go_wp2_with fail
          refine hK.out _ _ (fun h => by simp at h) ?_
          clear hK K'
          try simp only [Act.put, List.setIfInBounds_toArray, List.set_cons_zero, List.set_cons_succ]
          refine mix.D_done (by kernel_rfl) ?_ _
          try simp only [Act.put, List.setIfInBounds_toArray, List.set_cons_zero, List.set_cons_succ, List.getElem_toArray, List.getElem_cons_zero, List.getElem_cons_succ]
          go_wp2_with fail
          have hK9 : Keep S wA wp := HKR.out.trans hKp (fun g hg _ => hg)
          have hF := four4_keep hK9 (g := g11) (by have := hg11'.out; omega) (.int .u64 (rk' : Int)) (.int .i64 rg') (.int .i64 ro') (.int .i64 rn')
          have hHF := hHp.four nG (.int .u64 (rk' : Int)) (.int .i64 rg') (.int .i64 ro') (.int .i64 rn')
          have kF := ((((kG.put 0 (.int .u64 (rk' : Int))).put 1 (.int .i64 rg')).put 2 (.int .i64 ro')).put 3 (.int .i64 rn'))
          simp only [List.setIfInBounds_toArray, List.set_cons_zero, List.set_cons_succ] at kF
          unfold four4 at hF hHF
          have hS9 : ∀ g, S' g → S g ∨ wA.heap.size ≤ g := fun g hg => (hSp g hg).imp id (fun h9 => by have := hg11'.out; omega)
          go_meet
          exact ⟨rfl, m, _, h', _, x', S', vers.lay ⟨HFA.out.keep hF hHF hS9, ⟨kF, nG⟩, HSR.out.keep hF hS9⟩, HRT2, by omega, by omega, HFR⟩
      case rest =>
        obtain ⟨rfl, m, r', h', L', x', S', HA, HRT2, hLl, hml, HFR⟩ := hcut
        generalize wc = wB at HA ⊢
        clear HSR HFA HKR hBA b0 b1 b2 b3 kbR kXR kR hpR c0 c1 c2 c3 q0 q1 q2 q3 q4 x0 x1 x2 x3 x4 HFX wc
        have hFB := HA.out.1
        have hUB := HA.out.2.1
        have hSB := HA.out.2.2
        have hnl : (ns ++ m).length = ns.length + m.length := List.length_append
        have hh' := HRT2.out.low (by omega)
        have hfit' := HRT2.out.fits (by omega)
        have hall := allT_ok h S' (ns ++ m) h' r' x' L' wB hFB.hp hfit' HRT2.out.page HRT2.out.tree HRT2.out.p4 (by omega)
        have hseen := HRT2.out.seen
        obtain ⟨pk, pg, po, pn⟩ := r'
        have kG := hUB.1
        have g0 := kG.cell 0
        have g1 := kG.cell 1
        have g2 := kG.cell 2
        have g3 := kG.cell 3
        simp only [List.getElem?_toArray, List.getElem?_cons_zero, List.getElem?_cons_succ] at g0 g1 g2 g3
        have lG := kG.lt
        go_wp2_with fail
        refine hall.mono ?_
        rintro e wC ⟨hbC, sl2, v8, rfl, hsl2, hSn2⟩
        obtain ⟨Az, cz, rfl, _, _, _⟩ := row_rdF hSn2.1
        have hO2 : sl2.map (·.2.1) = ⟨pk, pg, po, pn⟩ :: refsP (ns ++ m) h' x' := by rw [← hseen, ← hsl2, List.map_map]; rfl
        have hcnt : cntN (sl.map (·.2.1)) sl2 = m.length := by rw [cntN_map, hO2, HO.out]; exact HFR.out.count HRT.out.old
        have hsl2l : sl2.length ≤ 625 := by
          rw [← List.length_map (f := psn), hsl2]
          have h5 := seenP_len h' ⟨pk, pg, po, pn⟩ 1 x' L' HRT2.out.tree HRT2.out.p4
          have h6 : 5 ^ h' ≤ 5 ^ 4 := Nat.pow_le_pow_right (by omega) (by omega)
          have : (5 : Nat) ^ 4 = 625 := rfl
          omega
        have HFC := vers.lay (hFB.next hbC)
        have HUC := vers.lay (hUB.next hbC)
        have HSB := vers.lay (hSB.next hbC)
        have HR2 := vers.lay hSn2.1
        clear hall hseen hsl2 hSn2 hO2 hFB hUB hSB HA kG g0 g1 g2 g3 lG hbC HFR HO
        go_wp2_with fail
        go_loopw [90, 15] (fun i a wi => ∃ k : Nat, k ≤ sl2.length ∧ i = .int .i64 (k : Int) ∧ a = .int .i64 (cntN (sl.map (·.2.1)) (sl2.take k) : Int) ∧ Hid (Below wC.heap.size wC wi)) (fun i _ _ => sl2.length - (intOf i).toNat)
        case atStart => exact ⟨0, Nat.zero_le _, rfl, by simp [cntN], vers.lay (Below.refl _ _)⟩
        case round =>
          obtain ⟨k, hk, rfl, rfl, hb⟩ := hrel
          by_cases hkl : k < sl2.length
          · obtain ⟨bk2, off2, rfl, hbk2, e0, e1, e2, e3, e4, e5, e6, e7⟩ := seen_at (row_below HR2.out hb.out) hkl
            have hnext := cntN_next (O := (sl.map (·.2.1))) hkl
            have hle : cntN (sl.map (·.2.1)) (sl2.take k) ≤ sl2.length := Nat.le_trans List.countP_le_length (by rw [List.length_take]; omega)
            generalize sl2[k] = sx at *
            obtain ⟨sd, ⟨sk, sg, so, sn⟩, ⟨slf, ses, sks, sA, sc, sQ, sm⟩⟩ := sx
            simp only [] at e0 e1 e2 e3 e4 e5 e6 e7 hnext
            have b4 : Below wr.heap.size wr (wr.alloc (.cells #[.int .i64 (sd : Int), .int .u64 (sk : Int), .int .i64 sg, .int .i64 so, .int .i64 sn, .bool slf, .slice sA ses.length sc, .slice sQ sks.length sm] 62)) := (Below.refl _ _).alloc (Nat.le_refl _) _
            have kB := Blk.new wr 62 #[.int .i64 (sd : Int), .int .u64 (sk : Int), .int .i64 sg, .int .i64 so, .int .i64 sn, .bool slf, .slice sA ses.length sc, .slice sQ sks.length sm]
            have hbB := vers.lay (hb.out.trans (b4.mono hb.out.size))
            have HSB := vers.lay ((HSB.out.next hb.out).next b4)
            have kBB := vers.lay kB
            have sB := b4.size
            generalize hWB : wr.alloc (.cells #[.int .i64 (sd : Int), .int .u64 (sk : Int), .int .i64 sg, .int .i64 so, .int .i64 sn, .bool slf, .slice sA ses.length sc, .slice sQ sks.length sm] 62) = WB at *
            clear b4 hb
            go_wp2_with fail
            clear e0 e1 e2 e3 e4 e5 e6 e7 hWB kB
            go_loopw [96, 18] (fun i a wi => ∃ q : Nat, q ≤ sl.length ∧ i = .int .i64 (q : Int) ∧ a = .bool (there ((sl.take q).map (·.2.1)) ⟨sk, sg, so, sn⟩) ∧ Hid (Below WB.heap.size WB wi)) (fun i _ _ => sl.length - (intOf i).toNat)
            case atStart => exact ⟨0, Nat.zero_le _, rfl, rfl, vers.lay (Below.refl _ _)⟩
            case round =>
              obtain ⟨q, hq, rfl, rfl, hb3⟩ := hrel
              by_cases hql : q < sl.length
              · obtain ⟨bk3, off3, rfl, hbk3, f0, f1, f2, f3, f4, f5, f6, f7⟩ := seen_at (row_below HSB.out.1 hb3.out) hql
                have hth := there_next hql ⟨sk, sg, so, sn⟩
                have hkB3 := kBB.out.below hb3.out kBB.out.lt
                generalize sl[q] = sy at *
                obtain ⟨zd, ⟨zk, zg, zo, zn⟩, ⟨zlf, zes, zks, zA, zc, zQ, zm⟩⟩ := sy
                simp only [] at f0 f1 f2 f3 f4 f5 f6 f7 hth
                have b5 : Below wr.heap.size wr (wr.alloc (.cells #[.int .i64 (zd : Int), .int .u64 (zk : Int), .int .i64 zg, .int .i64 zo, .int .i64 zn, .bool zlf, .slice zA zes.length zc, .slice zQ zks.length zm] 62)) := (Below.refl _ _).alloc (Nat.le_refl _) _
                have kT := Blk.new wr 62 #[.int .i64 (zd : Int), .int .u64 (zk : Int), .int .i64 zg, .int .i64 zo, .int .i64 zn, .bool zlf, .slice zA zes.length zc, .slice zQ zks.length zm]
                have kS5 := hkB3.below b5 hkB3.lt
                have hb5 := vers.lay (hb3.out.trans (b5.mono hb3.out.size))
                generalize hWT : wr.alloc (.cells #[.int .i64 (zd : Int), .int .u64 (zk : Int), .int .i64 zg, .int .i64 zo, .int .i64 zn, .bool zlf, .slice zA zes.length zc, .slice zQ zks.length zm] 62) = WT at *
                have t0 := kT.cell 0
                have t1 := kT.cell 1
                have t2 := kT.cell 2
                have t3 := kT.cell 3
                have t4 := kT.cell 4
                have t5 := kT.cell 5
                have t6 := kT.cell 6
                have t7 := kT.cell 7
                simp only [List.getElem?_toArray, List.getElem?_cons_zero, List.getElem?_cons_succ] at t0 t1 t2 t3 t4 t5 t6 t7
                have c0 := kS5.cell 0
                have c1 := kS5.cell 1
                have c2 := kS5.cell 2
                have c3 := kS5.cell 3
                have c4 := kS5.cell 4
                have c5 := kS5.cell 5
                have c6 := kS5.cell 6
                have c7 := kS5.cell 7
                simp only [List.getElem?_toArray, List.getElem?_cons_zero, List.getElem?_cons_succ] at c0 c1 c2 c3 c4 c5 c6 c7
                have lT := kT.lt
                have lS5 := kS5.lt
                clear hb3 b5
                cases hth0 : there ((sl.take q).map (·.2.1)) ⟨sk, sg, so, sn⟩ with
                | true =>
                  rw [hth0] at hth
                  clear hth0
                  go_wp2_with fail
                  exact ⟨⟨q + 1, hql, by go_num, by rw [hth]; rfl, hb5⟩, by first | (simp [intOf]; done) | (simp [intOf]; omega) | omega⟩
                | false =>
                  rw [hth0, Bool.false_or] at hth
                  clear hth0
                  go_wp2_with fail
                  all_goals exact ⟨⟨q + 1, hql, by go_num, by (rw [hth]; refine congrArg Value.bool ?_; symm; first | (refine decide_eq_true ?_; simp only [R.mk.injEq]; omega) | (refine decide_eq_false ?_; simp only [R.mk.injEq]; omega)), hb5⟩, by first | (simp [intOf]; done) | (simp [intOf]; omega) | omega⟩
              · obtain rfl : q = sl.length := by omega
                rw [List.take_length]
                have hb6 := vers.lay (hbB.out.trans (hb3.out.mono hbB.out.size))
                clear hb3
                cases hth0 : there (sl.map (·.2.1)) ⟨sk, sg, so, sn⟩ with
                | true =>
                  rw [hth0] at hnext
                  go_wp2_with fail
                  exact ⟨⟨k + 1, hkl, by go_num, by rw [hnext]; rfl, hb6⟩, by first | (simp [intOf]; done) | (simp [intOf]; omega) | omega⟩
                | false =>
                  rw [hth0] at hnext
                  go_wp2_with fail
                  exact ⟨⟨k + 1, hkl, by go_num, by rw [hnext]; go_num, hb6⟩, by first | (simp [intOf]; done) | (simp [intOf]; omega) | omega⟩
          · obtain rfl : k = sl2.length := by omega
            rw [List.take_length, hcnt]
            have hFD := HFC.out.next hb.out
            have hUD := HUC.out.next hb.out
            have hlen := len_any h S' (ns ++ m) _ hFD.hp
            have kG := hUD.1
            have kb := hFD.kb
            have pf0 := kb.frozen 0
            have pf1 := kb.frozen 1
            have pf2 := kb.frozen 2
            have pf3 := kb.frozen 3
            have g0 := kG.cell 0
            have g1 := kG.cell 1
            have g2 := kG.cell 2
            have g3 := kG.cell 3
            simp only [List.getElem?_toArray, List.getElem?_cons_zero, List.getElem?_cons_succ] at g0 g1 g2 g3
            have b0 := kb.cell 0
            have b1 := kb.cell 1
            have b2 := kb.cell 2
            have b3 := kb.cell 3
            simp only [List.getElem?_toArray, List.getElem?_cons_zero, List.getElem?_cons_succ] at b0 b1 b2 b3
            have lG := kG.lt
            have lb := kb.lt
            have hFE : FI w h rb S' (ns ++ m) ⟨pk, pg, po, pn⟩ h' L' x' (four4 wr rb (.int .u64 (pk : Int)) (.int .i64 pg) (.int .i64 po) (.int .i64 pn)) :=
              ⟨four4_below hFD.below hFD.lrb _ _ _ _, hFD.hp.four hFD.rbn _ _ _ _, hFD.lo, hFD.rbn, by
                have kF := ((((kb.put 0 (.int .u64 (pk : Int))).put 1 (.int .i64 pg)).put 2 (.int .i64 po)).put 3 (.int .i64 pn))
                simp only [List.setIfInBounds_toArray, List.set_cons_zero, List.set_cons_succ] at kF
                exact kF, hFD.lrb, HRT2.out⟩
            unfold four4 at hFE
            have HFE := vers.lay hFE
            have hdif : ((ns ++ m).length : Int) - (ns.length : Int) = (m.length : Int) := by rw [hnl]; omega
            clear hFE hFD hUD hb kG kb
            go_wp2_with fail
            refine hlen.mono ?_
            rintro e wl ⟨rfl, rfl⟩
            clear hlen
            go_wp2_with fail
            exact ⟨⟨j + 1, S', ns ++ m, ⟨pk, pg, po, pn⟩, h', L', x', HJM.out, by go_num, HFE, by omega, by omega⟩, by first | (simp [intOf]; done) | (simp [intOf]; omega) | (have := HJM.out; simp [intOf]; omega) | omega⟩
    · have hF := HF.out.below
      clear HF
      go_wp2_with fail
      go_ret
      exact ⟨by first | rfl | simp, hF⟩

end Go.Proofs.Ytnndohdiiglgmaa.trees
