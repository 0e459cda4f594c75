/- tells and awake of cell's laws. -/
import Derived.Test.YtnndohdiiglgmaaCeE


namespace Go.Proofs.Ytnndohdiiglgmaa.cells
set_option linter.unusedVariables false
set_option linter.unusedSimpArgs false
open Go.RowKit Go.Proofs.Ytnndohdiiglgmaa.base Go.Proofs.Ytnndohdiiglgmaa.powers Go.Lib

theorem own_below {w w' : World} {B n : Nat} {e : TypeId} {v : Value} {xs : List Value} (h : w.ownsRow B e 1 v n xs) (hb : Below w.heap.size w w') : w'.ownsRow B e 1 v n xs :=
  ⟨h.1, h.2.imp id fun ⟨g, cap, cur, h1, h2, h3, h4⟩ => ⟨g, cap, cur, h1, h2, (hb.block g (Array.getElem?_eq_some_iff.1 h3).1).trans h3, h4⟩⟩
section
variable {w : World} {p g q d : Nat} {c : CS} {L W : Int}

set_option maxRecDepth 100000 in
set_option maxHeartbeats 4000000 in
theorem tells_ok (hc : Ce w p g c) (hp : Blk w p 144 (PC L W)) (hd : Dc w q d c) (hq : Blk w q 146 (DC (bL L) (aL L) W)) (hI : In L) :
    Calls Try.prog 32 #[.pointer (some ⟨g, 0, none⟩), .pointer (some ⟨d, 0, none⟩)] w fun e w' => e = .returned (.bool true) ∧ Below w.heap.size w w' := by
  have lg := hc.lt
  have lp := hp.lt
  have ld := hd.lt
  have lq := hq.lt
  have hlen := slN_len c 2
  have cc1 := slots_ok hc
  go_enter Try.func32, Try.ntmps32
  go_wp2_with fail
  refine cc1.mono ?_
  clear cc1
  rintro e w1 ⟨v1, rfl, ho1, hb1⟩
  obtain ⟨A1, c1, rfl, rd1, _⟩ := own_slice ho1
  have cc2 := refSlots_ok (hd.below hb1 ld)
  go_wp2_with fail
  refine cc2.mono ?_
  clear cc2
  rintro e w2 ⟨v2, rfl, ho2, hb2⟩
  obtain ⟨A2, c2, rfl, rd2, _⟩ := own_slice ho2
  have cc3 := sameInts_ok (slN c 2) A1 A2 c1 c2 w2.heap.size w2 ((rd1.below hb2).more hb2.size) rd2 (Nat.le_refl _) (by omega)
  go_wp2_with fail
  refine cc3.mono ?_
  clear cc3 rd1 rd2 ho2
  rintro e w3 ⟨rfl, hs3⟩
  have hb3 : Below w2.heap.size w2 w3 := ⟨hs3.os, hs3.tape, hs3.output, hs3.size, fun k hk => hs3.block k hk (fun h => h)⟩
  have hb13 : Below w1.heap.size w1 w3 := hb2.trans (hb3.mono hb2.size)
  have hO3 : w3.ownsRow w.heap.size 3 1 (.slice A1 (slN c 2).length c1) (slN c 2).length ((slN c 2).map (Value.int .i64)) := own_below ho1 hb13
  have hB3 : Below w.heap.size w w3 := hb1.trans (hb13.mono hb1.size)
  have HN := powers.lay (show (slN c 2).length ≤ 2 from hlen)
  clear ho1 hb1 hb2 hb3 hb13 hs3
  generalize hXS : (slN c 2).map (Value.int .i64) = XS at hO3
  generalize hn : (slN c 2).length = n at *
  clear hXS
  have hn2 := HN.out
  clear hn
  go_wp2_with fail
  go_loopw [7] (fun i wr => ∃ (j : Nat) (xs : List Value), i = .int .i64 (j : Int) ∧ j ≤ n ∧ Hid (wr.ownsRow w.heap.size 3 1 (.slice A1 n c1) n xs) ∧ Below w.heap.size w wr) (fun i _ => n - (RowKit.intOf i).toNat)
  case atStart => exact ⟨0, XS, rfl, Nat.zero_le _, powers.lay hO3, hB3⟩
  case round =>
    clear hO3 hB3
    obtain ⟨j, xs, rfl, hj, HO, hb⟩ := hrel
    by_cases hlt : j < n
    · obtain ⟨g1, cap, cur, eA, hg1, kb, hcap, hsz, _⟩ := own_form HO.out (fun e => by injection e with _ e _; omega)
      injection eA with eA _ e2
      subst eA
      subst e2
      have x9 := HO.out.cellAt j (by omega)
      have hxl : xs.length = n := by simpa using HO.out.1
      rw [List.getElem?_eq_getElem (by omega)] at x9
      have f9 := HO.out.frozenAt j
      have l9 := kb.lt
      have ej : IntKind.i64.wrap ((j : Int) + 1) = (j : Int) + 1 := IntWalk.i64_in _ (by omega)
      have hst := HO.out.stored j (.int .i64 (-1))
      have HO9 := powers.lay hst.1
      have hb9 : Below w.heap.size w (wr.setCell ⟨g1, j, none⟩ (.int .i64 (-1))) := hb.setCell (p := ⟨g1, j, none⟩) hg1 _
      have HX := powers.lay hxl
      generalize xs[j] = v9 at x9
      clear hst hxl HO kb
      go_wp2_with fail
      go_roundw
      case rel => exact ⟨j + 1, _, by go_num, hlt, HO9, hb9⟩
      case measure => first | (simp [RowKit.intOf]; done) | (simp [RowKit.intOf]; omega) | omega
    · obtain rfl : j = n := by omega
      have hc7 := hc.below hb lg
      have hd7 := hd.below hb ld
      have hp7 := hp.below hb lp
      have hq7 := hq.below hb lq
      have hdk := hd7.1
      have x0 := hc7.ptr
      have x1 := hdk.cell 0
      have x3 := hdk.cell 3
      have x4 := hq7.cell 0
      have x5 := hq7.cell 2
      simp only [List.getElem?_toArray, List.getElem?_cons_zero, List.getElem?_cons_succ] at x1 x3 x4 x5
      have hbw := hb
      clear hc hd hp hq HO hlt hdk hb
      go_upto_region 7 with (fail)
      generalize wr = W7 at *
      have hS0 : Below W7.heap.size W7 W7.drew := (Below.refl _ _).drew
      refine mix.region_D (fun w' => Below W7.heap.size W7 w') (fun _ => false) (by kernel_rfl) ?_
      generalize W7.drew = Wd at hS0 ⊢
      refine mix.D_take (i := 0) (v := ?_) rfl (by kernel_rfl) (by kernel_rfl) (fun _ _ _ h => h) (Or.inl ⟨by first | rfl | simp [Region.wanted, yielded], ?_⟩) hS0 ?_
      rotate_left
      · intro w' hSw
        have z1 := (hSw.cell (p := ⟨g, 0, none⟩) hc7.lt).trans x0
        have z2 := (hSw.cell (p := ⟨d, 0, none⟩) hd7.lt).trans x1
        have z3 := (hSw.cell (p := ⟨d, 3, none⟩) hd7.lt).trans x3
        have z4 := (hSw.cell (p := ⟨q, 0, none⟩) hq7.lt).trans x4
        have z5 := (hSw.cell (p := ⟨q, 2, none⟩) hq7.lt).trans x5
        try simp only [List.getElem_toArray, List.getElem_cons_zero, List.getElem_cons_succ]
        go_simp
        exact rfl
      try simp only [Act.put, List.setIfInBounds_toArray, List.set_cons_zero, List.set_cons_succ, List.getElem_toArray, List.getElem_cons_zero, List.getElem_cons_succ]
      refine mix.D_take (i := 1) (v := ?_) rfl (by kernel_rfl) (by kernel_rfl) (fun _ _ _ h => h) (Or.inl ⟨by first | rfl | simp [Region.wanted, yielded], ?_⟩) hS0 ?_
      rotate_left
      · intro w' hSw
        have z1 := (hSw.cell (p := ⟨g, 0, none⟩) hc7.lt).trans x0
        have z2 := (hSw.cell (p := ⟨d, 0, none⟩) hd7.lt).trans x1
        have z3 := (hSw.cell (p := ⟨d, 3, none⟩) hd7.lt).trans x3
        have z4 := (hSw.cell (p := ⟨q, 0, none⟩) hq7.lt).trans x4
        have z5 := (hSw.cell (p := ⟨q, 2, none⟩) hq7.lt).trans x5
        try simp only [List.getElem_toArray, List.getElem_cons_zero, List.getElem_cons_succ]
        go_simp
        exact rfl
      try simp only [Act.put, List.setIfInBounds_toArray, List.set_cons_zero, List.set_cons_succ, List.getElem_toArray, List.getElem_cons_zero, List.getElem_cons_succ]
      refine mix.D_take (i := 2) (v := ?_) rfl (by kernel_rfl) (by kernel_rfl) (fun _ _ _ h => h) (Or.inl ⟨by first | rfl | simp [Region.wanted, yielded], ?_⟩) hS0 ?_
      rotate_left
      · intro w' hSw
        have z1 := (hSw.cell (p := ⟨g, 0, none⟩) hc7.lt).trans x0
        have z2 := (hSw.cell (p := ⟨d, 0, none⟩) hd7.lt).trans x1
        have z3 := (hSw.cell (p := ⟨d, 3, none⟩) hd7.lt).trans x3
        have z4 := (hSw.cell (p := ⟨q, 0, none⟩) hq7.lt).trans x4
        have z5 := (hSw.cell (p := ⟨q, 2, none⟩) hq7.lt).trans x5
        try simp only [List.getElem_toArray, List.getElem_cons_zero, List.getElem_cons_succ]
        go_simp
        exact rfl
      try simp only [Act.put, List.setIfInBounds_toArray, List.set_cons_zero, List.set_cons_succ, List.getElem_toArray, List.getElem_cons_zero, List.getElem_cons_succ]
      refine mix.D_take (i := 4) (v := ?_) rfl (by kernel_rfl) (by kernel_rfl) (fun _ _ _ h => h) (Or.inl ⟨by first | rfl | simp [Region.wanted, yielded], ?_⟩) hS0 ?_
      rotate_left
      · intro w' hSw
        have z1 := (hSw.cell (p := ⟨g, 0, none⟩) hc7.lt).trans x0
        have z2 := (hSw.cell (p := ⟨d, 0, none⟩) hd7.lt).trans x1
        have z3 := (hSw.cell (p := ⟨d, 3, none⟩) hd7.lt).trans x3
        have z4 := (hSw.cell (p := ⟨q, 0, none⟩) hq7.lt).trans x4
        have z5 := (hSw.cell (p := ⟨q, 2, none⟩) hq7.lt).trans x5
        try simp only [List.getElem_toArray, List.getElem_cons_zero, List.getElem_cons_succ]
        go_simp
        exact rfl
      try simp only [Act.put, List.setIfInBounds_toArray, List.set_cons_zero, List.set_cons_succ, List.getElem_toArray, List.getElem_cons_zero, List.getElem_cons_succ]
      refine mix.D_opW (k := 3) rfl (by kernel_rfl) (by first | rfl | simp [Region.wanted, yielded]) (fun K' hK => ?_)
      simp only [List.getElem_toArray, List.getElem_cons_zero, List.getElem_cons_succ]
      have hcN := hc7.below hS0 hc7.lt
      have hdN := hd7.below hS0 hd7.lt
      have hpN := hp7.below hS0 hp7.lt
      have hqN := hq7.below hS0 hq7.lt
      have hcall := slots_ok hcN
      clear hcN hdN hpN hqN
      go_wp2_with fail
      refine hcall.mono ?_
      clear hcall
      rintro e wb1 ⟨v1, rfl, ho1, hn1⟩
      obtain ⟨B1, k1, rfl, rd1, _⟩ := own_slice ho1
      clear ho1
      have hb1 := hS0.trans (hn1.mono hS0.size)
      refine hK.out _ _ (fun _ => hb1) ?_
      clear hK K'
      try simp only [Act.put, List.setIfInBounds_toArray, List.set_cons_zero, List.set_cons_succ]
      refine mix.D_opW (k := 5) rfl (by kernel_rfl) (by first | rfl | simp [Region.wanted, yielded]) (fun K' hK => ?_)
      simp only [List.getElem_toArray, List.getElem_cons_zero, List.getElem_cons_succ]
      have hcN := hc7.below hb1 hc7.lt
      have hdN := hd7.below hb1 hd7.lt
      have hpN := hp7.below hb1 hp7.lt
      have hqN := hq7.below hb1 hq7.lt
      have hcall := refSlots_ok hdN
      clear hcN hdN hpN hqN
      go_wp2_with fail
      refine hcall.mono ?_
      clear hcall
      rintro e wb2 ⟨v2, rfl, ho2, hn2⟩
      obtain ⟨B2, k2, rfl, rd2, _⟩ := own_slice ho2
      clear ho2
      have hb2 := hb1.trans (hn2.mono hb1.size)
      refine hK.out _ _ (fun _ => hb2) ?_
      clear hK K'
      try simp only [Act.put, List.setIfInBounds_toArray, List.set_cons_zero, List.set_cons_succ]
      refine mix.D_opW (k := 6) rfl (by kernel_rfl) (by first | rfl | simp [Region.wanted, yielded]) (fun K' hK => ?_)
      simp only [List.getElem_toArray, List.getElem_cons_zero, List.getElem_cons_succ]
      have hcall := sameInts_ok (slN c 2) B1 B2 k1 k2 wb2.heap.size wb2 ((rd1.below hn2).more hn2.size) rd2 (Nat.le_refl _) (by have := slN_len c 2; omega)
      go_wp2_with fail
      refine hcall.mono ?_
      clear hcall rd1 rd2
      rintro e wb3 ⟨rfl, hn3⟩
      have hb3 : Below W7.heap.size W7 wb3 := hb2.trans ⟨hn3.os, hn3.tape, hn3.output, hn3.size, fun k hk => hn3.block k (Nat.lt_of_lt_of_le hk hb2.size) (fun h => h)⟩
      refine hK.out _ _ (fun _ => hb3) ?_
      clear hK K'
      try simp only [Act.put, List.setIfInBounds_toArray, List.set_cons_zero, List.set_cons_succ]
      refine mix.D_take (i := 7) (v := ?_) rfl (by kernel_rfl) (by kernel_rfl) (fun _ _ _ h => h) (Or.inl ⟨by first | rfl | simp [Region.wanted, yielded], ?_⟩) hb3 ?_
      rotate_left
      · intro w' hSw
        have z1 := (hSw.cell (p := ⟨g, 0, none⟩) hc7.lt).trans x0
        have z2 := (hSw.cell (p := ⟨d, 0, none⟩) hd7.lt).trans x1
        have z3 := (hSw.cell (p := ⟨d, 3, none⟩) hd7.lt).trans x3
        have z4 := (hSw.cell (p := ⟨q, 0, none⟩) hq7.lt).trans x4
        have z5 := (hSw.cell (p := ⟨q, 2, none⟩) hq7.lt).trans x5
        try simp only [List.getElem_toArray, List.getElem_cons_zero, List.getElem_cons_succ]
        go_simp
        exact rfl
      try simp only [Act.put, List.setIfInBounds_toArray, List.set_cons_zero, List.set_cons_succ, List.getElem_toArray, List.getElem_cons_zero, List.getElem_cons_succ]
      refine mix.D_take (i := 8) (v := ?_) rfl (by kernel_rfl) (by kernel_rfl) (fun _ _ _ h => h) (Or.inl ⟨by first | rfl | simp [Region.wanted, yielded], ?_⟩) hb3 ?_
      rotate_left
      · intro w' hSw
        have z1 := (hSw.cell (p := ⟨g, 0, none⟩) hc7.lt).trans x0
        have z2 := (hSw.cell (p := ⟨d, 0, none⟩) hd7.lt).trans x1
        have z3 := (hSw.cell (p := ⟨d, 3, none⟩) hd7.lt).trans x3
        have z4 := (hSw.cell (p := ⟨q, 0, none⟩) hq7.lt).trans x4
        have z5 := (hSw.cell (p := ⟨q, 2, none⟩) hq7.lt).trans x5
        try simp only [List.getElem_toArray, List.getElem_cons_zero, List.getElem_cons_succ]
        go_simp
        exact rfl
      try simp only [Act.put, List.setIfInBounds_toArray, List.set_cons_zero, List.set_cons_succ, List.getElem_toArray, List.getElem_cons_zero, List.getElem_cons_succ]
      refine mix.D_take (i := 9) (v := ?_) rfl (by kernel_rfl) (by kernel_rfl) (fun _ _ _ h => h) (Or.inl ⟨by first | rfl | simp [Region.wanted, yielded], ?_⟩) hb3 ?_
      rotate_left
      · intro w' hSw
        have z1 := (hSw.cell (p := ⟨g, 0, none⟩) hc7.lt).trans x0
        have z2 := (hSw.cell (p := ⟨d, 0, none⟩) hd7.lt).trans x1
        have z3 := (hSw.cell (p := ⟨d, 3, none⟩) hd7.lt).trans x3
        have z4 := (hSw.cell (p := ⟨q, 0, none⟩) hq7.lt).trans x4
        have z5 := (hSw.cell (p := ⟨q, 2, none⟩) hq7.lt).trans x5
        try simp only [List.getElem_toArray, List.getElem_cons_zero, List.getElem_cons_succ]
        go_simp
        exact rfl
      try simp only [Act.put, List.setIfInBounds_toArray, List.set_cons_zero, List.set_cons_succ, List.getElem_toArray, List.getElem_cons_zero, List.getElem_cons_succ]
      refine mix.D_take (i := 11) (v := ?_) rfl (by kernel_rfl) (by kernel_rfl) (fun _ _ _ h => h) (Or.inl ⟨by first | rfl | simp [Region.wanted, yielded], ?_⟩) hb3 ?_
      rotate_left
      · intro w' hSw
        have z1 := (hSw.cell (p := ⟨g, 0, none⟩) hc7.lt).trans x0
        have z2 := (hSw.cell (p := ⟨d, 0, none⟩) hd7.lt).trans x1
        have z3 := (hSw.cell (p := ⟨d, 3, none⟩) hd7.lt).trans x3
        have z4 := (hSw.cell (p := ⟨q, 0, none⟩) hq7.lt).trans x4
        have z5 := (hSw.cell (p := ⟨q, 2, none⟩) hq7.lt).trans x5
        try simp only [List.getElem_toArray, List.getElem_cons_zero, List.getElem_cons_succ]
        go_simp
        exact rfl
      try simp only [Act.put, List.setIfInBounds_toArray, List.set_cons_zero, List.set_cons_succ, List.getElem_toArray, List.getElem_cons_zero, List.getElem_cons_succ]
      refine mix.D_take (i := 12) (v := ?_) rfl (by kernel_rfl) (by kernel_rfl) (fun _ _ _ h => h) (Or.inl ⟨by first | rfl | simp [Region.wanted, yielded], ?_⟩) hb3 ?_
      rotate_left
      · intro w' hSw
        have z1 := (hSw.cell (p := ⟨g, 0, none⟩) hc7.lt).trans x0
        have z2 := (hSw.cell (p := ⟨d, 0, none⟩) hd7.lt).trans x1
        have z3 := (hSw.cell (p := ⟨d, 3, none⟩) hd7.lt).trans x3
        have z4 := (hSw.cell (p := ⟨q, 0, none⟩) hq7.lt).trans x4
        have z5 := (hSw.cell (p := ⟨q, 2, none⟩) hq7.lt).trans x5
        try simp only [List.getElem_toArray, List.getElem_cons_zero, List.getElem_cons_succ]
        go_simp
        exact rfl
      try simp only [Act.put, List.setIfInBounds_toArray, List.set_cons_zero, List.set_cons_succ, List.getElem_toArray, List.getElem_cons_zero, List.getElem_cons_succ]
      refine mix.D_take (i := 13) (v := ?_) rfl (by kernel_rfl) (by kernel_rfl) (fun _ _ _ h => h) (Or.inl ⟨by first | rfl | simp [Region.wanted, yielded], ?_⟩) hb3 ?_
      rotate_left
      · intro w' hSw
        have z1 := (hSw.cell (p := ⟨g, 0, none⟩) hc7.lt).trans x0
        have z2 := (hSw.cell (p := ⟨d, 0, none⟩) hd7.lt).trans x1
        have z3 := (hSw.cell (p := ⟨d, 3, none⟩) hd7.lt).trans x3
        have z4 := (hSw.cell (p := ⟨q, 0, none⟩) hq7.lt).trans x4
        have z5 := (hSw.cell (p := ⟨q, 2, none⟩) hq7.lt).trans x5
        try simp only [List.getElem_toArray, List.getElem_cons_zero, List.getElem_cons_succ]
        go_simp
        exact rfl
      try simp only [Act.put, List.setIfInBounds_toArray, List.set_cons_zero, List.set_cons_succ, List.getElem_toArray, List.getElem_cons_zero, List.getElem_cons_succ]
      refine mix.D_take (i := 14) (v := ?_) rfl (by kernel_rfl) (by kernel_rfl) (fun _ _ _ h => h) (Or.inl ⟨by first | rfl | simp [Region.wanted, yielded], ?_⟩) hb3 ?_
      rotate_left
      · intro w' hSw
        have z1 := (hSw.cell (p := ⟨g, 0, none⟩) hc7.lt).trans x0
        have z2 := (hSw.cell (p := ⟨d, 0, none⟩) hd7.lt).trans x1
        have z3 := (hSw.cell (p := ⟨d, 3, none⟩) hd7.lt).trans x3
        have z4 := (hSw.cell (p := ⟨q, 0, none⟩) hq7.lt).trans x4
        have z5 := (hSw.cell (p := ⟨q, 2, none⟩) hq7.lt).trans x5
        try simp only [List.getElem_toArray, List.getElem_cons_zero, List.getElem_cons_succ]
        go_simp
        exact rfl
      try simp only [Act.put, List.setIfInBounds_toArray, List.set_cons_zero, List.set_cons_succ, List.getElem_toArray, List.getElem_cons_zero, List.getElem_cons_succ]
      refine mix.D_opW (k := 10) rfl (by kernel_rfl) (by first | rfl | simp [Region.wanted, yielded]) (fun K' hK => ?_)
      simp only [List.getElem_toArray, List.getElem_cons_zero, List.getElem_cons_succ]
      have hcN := hc7.below hb3 hc7.lt
      have hdN := hd7.below hb3 hd7.lt
      have hpN := hp7.below hb3 hp7.lt
      have hqN := hq7.below hb3 hq7.lt
      have hcall := count_ok hcN
      clear hcN hdN hpN hqN
      go_wp2_with fail
      refine hcall.mono ?_
      clear hcall
      rintro e wb4 ⟨rfl, rfl⟩
      have hb4 := hb3
      refine hK.out _ _ (fun _ => hb4) ?_
      clear hK K'
      try simp only [Act.put, List.setIfInBounds_toArray, List.set_cons_zero, List.set_cons_succ]
      refine mix.D_take (i := 15) (v := ?_) rfl (by kernel_rfl) (by kernel_rfl) (fun _ _ _ h => h) (Or.inl ⟨by first | rfl | simp [Region.wanted, yielded], ?_⟩) hb4 ?_
      rotate_left
      · intro w' hSw
        have z1 := (hSw.cell (p := ⟨g, 0, none⟩) hc7.lt).trans x0
        have z2 := (hSw.cell (p := ⟨d, 0, none⟩) hd7.lt).trans x1
        have z3 := (hSw.cell (p := ⟨d, 3, none⟩) hd7.lt).trans x3
        have z4 := (hSw.cell (p := ⟨q, 0, none⟩) hq7.lt).trans x4
        have z5 := (hSw.cell (p := ⟨q, 2, none⟩) hq7.lt).trans x5
        try simp only [List.getElem_toArray, List.getElem_cons_zero, List.getElem_cons_succ]
        go_simp
        exact rfl
      try simp only [Act.put, List.setIfInBounds_toArray, List.set_cons_zero, List.set_cons_succ, List.getElem_toArray, List.getElem_cons_zero, List.getElem_cons_succ]
      refine mix.D_take (i := 16) (v := ?_) rfl (by kernel_rfl) (by kernel_rfl) (fun _ _ _ h => h) (Or.inl ⟨by first | rfl | simp [Region.wanted, yielded], ?_⟩) hb4 ?_
      rotate_left
      · intro w' hSw
        have z1 := (hSw.cell (p := ⟨g, 0, none⟩) hc7.lt).trans x0
        have z2 := (hSw.cell (p := ⟨d, 0, none⟩) hd7.lt).trans x1
        have z3 := (hSw.cell (p := ⟨d, 3, none⟩) hd7.lt).trans x3
        have z4 := (hSw.cell (p := ⟨q, 0, none⟩) hq7.lt).trans x4
        have z5 := (hSw.cell (p := ⟨q, 2, none⟩) hq7.lt).trans x5
        try simp only [List.getElem_toArray, List.getElem_cons_zero, List.getElem_cons_succ]
        go_simp
        exact rfl
      try simp only [Act.put, List.setIfInBounds_toArray, List.set_cons_zero, List.set_cons_succ, List.getElem_toArray, List.getElem_cons_zero, List.getElem_cons_succ]
      refine mix.D_take (i := 17) (v := ?_) rfl (by kernel_rfl) (by kernel_rfl) (fun _ _ _ h => h) (Or.inl ⟨by first | rfl | simp [Region.wanted, yielded], ?_⟩) hb4 ?_
      rotate_left
      · intro w' hSw
        have z1 := (hSw.cell (p := ⟨g, 0, none⟩) hc7.lt).trans x0
        have z2 := (hSw.cell (p := ⟨d, 0, none⟩) hd7.lt).trans x1
        have z3 := (hSw.cell (p := ⟨d, 3, none⟩) hd7.lt).trans x3
        have z4 := (hSw.cell (p := ⟨q, 0, none⟩) hq7.lt).trans x4
        have z5 := (hSw.cell (p := ⟨q, 2, none⟩) hq7.lt).trans x5
        try simp only [List.getElem_toArray, List.getElem_cons_zero, List.getElem_cons_succ]
        go_simp
        exact rfl
      try simp only [Act.put, List.setIfInBounds_toArray, List.set_cons_zero, List.set_cons_succ, List.getElem_toArray, List.getElem_cons_zero, List.getElem_cons_succ]
      refine mix.D_take (i := 18) (v := ?_) rfl (by kernel_rfl) (by kernel_rfl) (fun _ _ _ h => h) (Or.inl ⟨by first | rfl | simp [Region.wanted, yielded], ?_⟩) hb4 ?_
      rotate_left
      · intro w' hSw
        have z1 := (hSw.cell (p := ⟨g, 0, none⟩) hc7.lt).trans x0
        have z2 := (hSw.cell (p := ⟨d, 0, none⟩) hd7.lt).trans x1
        have z3 := (hSw.cell (p := ⟨d, 3, none⟩) hd7.lt).trans x3
        have z4 := (hSw.cell (p := ⟨q, 0, none⟩) hq7.lt).trans x4
        have z5 := (hSw.cell (p := ⟨q, 2, none⟩) hq7.lt).trans x5
        try simp only [List.getElem_toArray, List.getElem_cons_zero, List.getElem_cons_succ]
        go_simp
        exact rfl
      try simp only [Act.put, List.setIfInBounds_toArray, List.set_cons_zero, List.set_cons_succ, List.getElem_toArray, List.getElem_cons_zero, List.getElem_cons_succ]
      refine mix.D_take (i := 19) (v := ?_) rfl (by kernel_rfl) (by kernel_rfl) (fun _ _ _ h => h) (Or.inl ⟨by first | rfl | simp [Region.wanted, yielded], ?_⟩) hb4 ?_
      rotate_left
      · intro w' hSw
        have z1 := (hSw.cell (p := ⟨g, 0, none⟩) hc7.lt).trans x0
        have z2 := (hSw.cell (p := ⟨d, 0, none⟩) hd7.lt).trans x1
        have z3 := (hSw.cell (p := ⟨d, 3, none⟩) hd7.lt).trans x3
        have z4 := (hSw.cell (p := ⟨q, 0, none⟩) hq7.lt).trans x4
        have z5 := (hSw.cell (p := ⟨q, 2, none⟩) hq7.lt).trans x5
        try simp only [List.getElem_toArray, List.getElem_cons_zero, List.getElem_cons_succ]
        go_simp
        exact rfl
      try simp only [Act.put, List.setIfInBounds_toArray, List.set_cons_zero, List.set_cons_succ, List.getElem_toArray, List.getElem_cons_zero, List.getElem_cons_succ]
      refine mix.D_take (i := 20) (v := ?_) rfl (by kernel_rfl) (by kernel_rfl) (fun _ _ _ h => h) (Or.inl ⟨by first | rfl | simp [Region.wanted, yielded], ?_⟩) hb4 ?_
      rotate_left
      · intro w' hSw
        have z1 := (hSw.cell (p := ⟨g, 0, none⟩) hc7.lt).trans x0
        have z2 := (hSw.cell (p := ⟨d, 0, none⟩) hd7.lt).trans x1
        have z3 := (hSw.cell (p := ⟨d, 3, none⟩) hd7.lt).trans x3
        have z4 := (hSw.cell (p := ⟨q, 0, none⟩) hq7.lt).trans x4
        have z5 := (hSw.cell (p := ⟨q, 2, none⟩) hq7.lt).trans x5
        try simp only [List.getElem_toArray, List.getElem_cons_zero, List.getElem_cons_succ]
        go_simp
        exact rfl
      try simp only [Act.put, List.setIfInBounds_toArray, List.set_cons_zero, List.set_cons_succ, List.getElem_toArray, List.getElem_cons_zero, List.getElem_cons_succ]
      refine mix.D_take (i := 21) (v := ?_) rfl (by kernel_rfl) (by kernel_rfl) (fun _ _ _ h => h) (Or.inl ⟨by first | rfl | simp [Region.wanted, yielded], ?_⟩) hb4 ?_
      rotate_left
      · intro w' hSw
        have z1 := (hSw.cell (p := ⟨g, 0, none⟩) hc7.lt).trans x0
        have z2 := (hSw.cell (p := ⟨d, 0, none⟩) hd7.lt).trans x1
        have z3 := (hSw.cell (p := ⟨d, 3, none⟩) hd7.lt).trans x3
        have z4 := (hSw.cell (p := ⟨q, 0, none⟩) hq7.lt).trans x4
        have z5 := (hSw.cell (p := ⟨q, 2, none⟩) hq7.lt).trans x5
        try simp only [List.getElem_toArray, List.getElem_cons_zero, List.getElem_cons_succ]
        go_simp
        exact rfl
      try simp only [Act.put, List.setIfInBounds_toArray, List.set_cons_zero, List.set_cons_succ, List.getElem_toArray, List.getElem_cons_zero, List.getElem_cons_succ]
      refine mix.D_take (i := 23) (v := ?_) rfl (by kernel_rfl) (by kernel_rfl) (fun _ _ _ h => h) (Or.inl ⟨by first | rfl | simp [Region.wanted, yielded], ?_⟩) hb4 ?_
      rotate_left
      · intro w' hSw
        have z1 := (hSw.cell (p := ⟨g, 0, none⟩) hc7.lt).trans x0
        have z2 := (hSw.cell (p := ⟨d, 0, none⟩) hd7.lt).trans x1
        have z3 := (hSw.cell (p := ⟨d, 3, none⟩) hd7.lt).trans x3
        have z4 := (hSw.cell (p := ⟨q, 0, none⟩) hq7.lt).trans x4
        have z5 := (hSw.cell (p := ⟨q, 2, none⟩) hq7.lt).trans x5
        try simp only [List.getElem_toArray, List.getElem_cons_zero, List.getElem_cons_succ]
        go_simp
        exact rfl
      try simp only [Act.put, List.setIfInBounds_toArray, List.set_cons_zero, List.set_cons_succ, List.getElem_toArray, List.getElem_cons_zero, List.getElem_cons_succ]
      refine mix.D_take (i := 24) (v := ?_) rfl (by kernel_rfl) (by kernel_rfl) (fun _ _ _ h => h) (Or.inl ⟨by first | rfl | simp [Region.wanted, yielded], ?_⟩) hb4 ?_
      rotate_left
      · intro w' hSw
        have z1 := (hSw.cell (p := ⟨g, 0, none⟩) hc7.lt).trans x0
        have z2 := (hSw.cell (p := ⟨d, 0, none⟩) hd7.lt).trans x1
        have z3 := (hSw.cell (p := ⟨d, 3, none⟩) hd7.lt).trans x3
        have z4 := (hSw.cell (p := ⟨q, 0, none⟩) hq7.lt).trans x4
        have z5 := (hSw.cell (p := ⟨q, 2, none⟩) hq7.lt).trans x5
        try simp only [List.getElem_toArray, List.getElem_cons_zero, List.getElem_cons_succ]
        go_simp
        exact rfl
      try simp only [Act.put, List.setIfInBounds_toArray, List.set_cons_zero, List.set_cons_succ, List.getElem_toArray, List.getElem_cons_zero, List.getElem_cons_succ]
      refine mix.D_take (i := 25) (v := ?_) rfl (by kernel_rfl) (by kernel_rfl) (fun _ _ _ h => h) (Or.inl ⟨by first | rfl | simp [Region.wanted, yielded], ?_⟩) hb4 ?_
      rotate_left
      · intro w' hSw
        have z1 := (hSw.cell (p := ⟨g, 0, none⟩) hc7.lt).trans x0
        have z2 := (hSw.cell (p := ⟨d, 0, none⟩) hd7.lt).trans x1
        have z3 := (hSw.cell (p := ⟨d, 3, none⟩) hd7.lt).trans x3
        have z4 := (hSw.cell (p := ⟨q, 0, none⟩) hq7.lt).trans x4
        have z5 := (hSw.cell (p := ⟨q, 2, none⟩) hq7.lt).trans x5
        try simp only [List.getElem_toArray, List.getElem_cons_zero, List.getElem_cons_succ]
        go_simp
        exact rfl
      try simp only [Act.put, List.setIfInBounds_toArray, List.set_cons_zero, List.set_cons_succ, List.getElem_toArray, List.getElem_cons_zero, List.getElem_cons_succ]
      refine mix.D_take (i := 26) (v := ?_) rfl (by kernel_rfl) (by kernel_rfl) (fun _ _ _ h => h) (Or.inl ⟨by first | rfl | simp [Region.wanted, yielded], ?_⟩) hb4 ?_
      rotate_left
      · intro w' hSw
        have z1 := (hSw.cell (p := ⟨g, 0, none⟩) hc7.lt).trans x0
        have z2 := (hSw.cell (p := ⟨d, 0, none⟩) hd7.lt).trans x1
        have z3 := (hSw.cell (p := ⟨d, 3, none⟩) hd7.lt).trans x3
        have z4 := (hSw.cell (p := ⟨q, 0, none⟩) hq7.lt).trans x4
        have z5 := (hSw.cell (p := ⟨q, 2, none⟩) hq7.lt).trans x5
        try simp only [List.getElem_toArray, List.getElem_cons_zero, List.getElem_cons_succ]
        go_simp
        exact rfl
      try simp only [Act.put, List.setIfInBounds_toArray, List.set_cons_zero, List.set_cons_succ, List.getElem_toArray, List.getElem_cons_zero, List.getElem_cons_succ]
      refine mix.D_take (i := 27) (v := ?_) rfl (by kernel_rfl) (by kernel_rfl) (fun _ _ _ h => h) (Or.inl ⟨by first | rfl | simp [Region.wanted, yielded], ?_⟩) hb4 ?_
      rotate_left
      · intro w' hSw
        have z1 := (hSw.cell (p := ⟨g, 0, none⟩) hc7.lt).trans x0
        have z2 := (hSw.cell (p := ⟨d, 0, none⟩) hd7.lt).trans x1
        have z3 := (hSw.cell (p := ⟨d, 3, none⟩) hd7.lt).trans x3
        have z4 := (hSw.cell (p := ⟨q, 0, none⟩) hq7.lt).trans x4
        have z5 := (hSw.cell (p := ⟨q, 2, none⟩) hq7.lt).trans x5
        try simp only [List.getElem_toArray, List.getElem_cons_zero, List.getElem_cons_succ]
        go_simp
        exact rfl
      try simp only [Act.put, List.setIfInBounds_toArray, List.set_cons_zero, List.set_cons_succ, List.getElem_toArray, List.getElem_cons_zero, List.getElem_cons_succ]
      refine mix.D_take (i := 28) (v := ?_) rfl (by kernel_rfl) (by kernel_rfl) (fun _ _ _ h => h) (Or.inl ⟨by first | rfl | simp [Region.wanted, yielded], ?_⟩) hb4 ?_
      rotate_left
      · intro w' hSw
        have z1 := (hSw.cell (p := ⟨g, 0, none⟩) hc7.lt).trans x0
        have z2 := (hSw.cell (p := ⟨d, 0, none⟩) hd7.lt).trans x1
        have z3 := (hSw.cell (p := ⟨d, 3, none⟩) hd7.lt).trans x3
        have z4 := (hSw.cell (p := ⟨q, 0, none⟩) hq7.lt).trans x4
        have z5 := (hSw.cell (p := ⟨q, 2, none⟩) hq7.lt).trans x5
        try simp only [List.getElem_toArray, List.getElem_cons_zero, List.getElem_cons_succ]
        go_simp
        exact rfl
      try simp only [Act.put, List.setIfInBounds_toArray, List.set_cons_zero, List.set_cons_succ, List.getElem_toArray, List.getElem_cons_zero, List.getElem_cons_succ]
      refine mix.D_take (i := 29) (v := ?_) rfl (by kernel_rfl) (by kernel_rfl) (fun _ _ _ h => h) (Or.inl ⟨by first | rfl | simp [Region.wanted, yielded], ?_⟩) hb4 ?_
      rotate_left
      · intro w' hSw
        have z1 := (hSw.cell (p := ⟨g, 0, none⟩) hc7.lt).trans x0
        have z2 := (hSw.cell (p := ⟨d, 0, none⟩) hd7.lt).trans x1
        have z3 := (hSw.cell (p := ⟨d, 3, none⟩) hd7.lt).trans x3
        have z4 := (hSw.cell (p := ⟨q, 0, none⟩) hq7.lt).trans x4
        have z5 := (hSw.cell (p := ⟨q, 2, none⟩) hq7.lt).trans x5
        try simp only [List.getElem_toArray, List.getElem_cons_zero, List.getElem_cons_succ]
        go_simp
        exact rfl
      try simp only [Act.put, List.setIfInBounds_toArray, List.set_cons_zero, List.set_cons_succ, List.getElem_toArray, List.getElem_cons_zero, List.getElem_cons_succ]
      refine mix.D_opW (k := 22) rfl (by kernel_rfl) (by first | rfl | simp [Region.wanted, yielded]) (fun K' hK => ?_)
      simp only [List.getElem_toArray, List.getElem_cons_zero, List.getElem_cons_succ]
      have hcN := hc7.below hb4 hc7.lt
      have hdN := hd7.below hb4 hd7.lt
      have hpN := hp7.below hb4 hp7.lt
      have hqN := hq7.below hb4 hq7.lt
      have hcall := on_ok hpN
      clear hcN hdN hpN hqN
      go_wp2_with fail
      refine hcall.mono ?_
      clear hcall
      rintro e wb5 ⟨rfl, rfl⟩
      have hb5 := hb4
      refine hK.out _ _ (fun _ => hb5) ?_
      clear hK K'
      try simp only [Act.put, List.setIfInBounds_toArray, List.set_cons_zero, List.set_cons_succ]
      refine mix.D_take (i := 30) (v := ?_) rfl (by kernel_rfl) (by kernel_rfl) (fun _ _ _ h => h) (Or.inl ⟨by first | rfl | simp [Region.wanted, yielded], ?_⟩) hb5 ?_
      rotate_left
      · intro w' hSw
        have z1 := (hSw.cell (p := ⟨g, 0, none⟩) hc7.lt).trans x0
        have z2 := (hSw.cell (p := ⟨d, 0, none⟩) hd7.lt).trans x1
        have z3 := (hSw.cell (p := ⟨d, 3, none⟩) hd7.lt).trans x3
        have z4 := (hSw.cell (p := ⟨q, 0, none⟩) hq7.lt).trans x4
        have z5 := (hSw.cell (p := ⟨q, 2, none⟩) hq7.lt).trans x5
        try simp only [List.getElem_toArray, List.getElem_cons_zero, List.getElem_cons_succ]
        go_simp
        exact rfl
      try simp only [Act.put, List.setIfInBounds_toArray, List.set_cons_zero, List.set_cons_succ, List.getElem_toArray, List.getElem_cons_zero, List.getElem_cons_succ]
      refine mix.D_take (i := 31) (v := ?_) rfl (by kernel_rfl) (by kernel_rfl) (fun _ _ _ h => h) (Or.inl ⟨by first | rfl | simp [Region.wanted, yielded], ?_⟩) hb5 ?_
      rotate_left
      · intro w' hSw
        have z1 := (hSw.cell (p := ⟨g, 0, none⟩) hc7.lt).trans x0
        have z2 := (hSw.cell (p := ⟨d, 0, none⟩) hd7.lt).trans x1
        have z3 := (hSw.cell (p := ⟨d, 3, none⟩) hd7.lt).trans x3
        have z4 := (hSw.cell (p := ⟨q, 0, none⟩) hq7.lt).trans x4
        have z5 := (hSw.cell (p := ⟨q, 2, none⟩) hq7.lt).trans x5
        try simp only [List.getElem_toArray, List.getElem_cons_zero, List.getElem_cons_succ]
        go_simp
        exact rfl
      try simp only [Act.put, List.setIfInBounds_toArray, List.set_cons_zero, List.set_cons_succ, List.getElem_toArray, List.getElem_cons_zero, List.getElem_cons_succ]
      refine mix.D_take (i := 32) (v := ?_) rfl (by kernel_rfl) (by kernel_rfl) (fun _ _ _ h => h) (Or.inl ⟨by first | rfl | simp [Region.wanted, yielded], ?_⟩) hb5 ?_
      rotate_left
      · intro w' hSw
        have z1 := (hSw.cell (p := ⟨g, 0, none⟩) hc7.lt).trans x0
        have z2 := (hSw.cell (p := ⟨d, 0, none⟩) hd7.lt).trans x1
        have z3 := (hSw.cell (p := ⟨d, 3, none⟩) hd7.lt).trans x3
        have z4 := (hSw.cell (p := ⟨q, 0, none⟩) hq7.lt).trans x4
        have z5 := (hSw.cell (p := ⟨q, 2, none⟩) hq7.lt).trans x5
        try simp only [List.getElem_toArray, List.getElem_cons_zero, List.getElem_cons_succ]
        go_simp
        exact rfl
      try simp only [Act.put, List.setIfInBounds_toArray, List.set_cons_zero, List.set_cons_succ, List.getElem_toArray, List.getElem_cons_zero, List.getElem_cons_succ]
      refine mix.D_take (i := 33) (v := ?_) rfl (by kernel_rfl) (by kernel_rfl) (fun _ _ _ h => h) (Or.inl ⟨by first | rfl | simp [Region.wanted, yielded], ?_⟩) hb5 ?_
      rotate_left
      · intro w' hSw
        have z1 := (hSw.cell (p := ⟨g, 0, none⟩) hc7.lt).trans x0
        have z2 := (hSw.cell (p := ⟨d, 0, none⟩) hd7.lt).trans x1
        have z3 := (hSw.cell (p := ⟨d, 3, none⟩) hd7.lt).trans x3
        have z4 := (hSw.cell (p := ⟨q, 0, none⟩) hq7.lt).trans x4
        have z5 := (hSw.cell (p := ⟨q, 2, none⟩) hq7.lt).trans x5
        try simp only [List.getElem_toArray, List.getElem_cons_zero, List.getElem_cons_succ]
        go_simp
        exact rfl
      try simp only [Act.put, List.setIfInBounds_toArray, List.set_cons_zero, List.set_cons_succ, List.getElem_toArray, List.getElem_cons_zero, List.getElem_cons_succ]
      refine mix.D_take (i := 34) (v := ?_) rfl (by kernel_rfl) (by kernel_rfl) (fun _ _ _ h => h) (Or.inl ⟨by first | rfl | simp [Region.wanted, yielded], ?_⟩) hb5 ?_
      rotate_left
      · intro w' hSw
        have z1 := (hSw.cell (p := ⟨g, 0, none⟩) hc7.lt).trans x0
        have z2 := (hSw.cell (p := ⟨d, 0, none⟩) hd7.lt).trans x1
        have z3 := (hSw.cell (p := ⟨d, 3, none⟩) hd7.lt).trans x3
        have z4 := (hSw.cell (p := ⟨q, 0, none⟩) hq7.lt).trans x4
        have z5 := (hSw.cell (p := ⟨q, 2, none⟩) hq7.lt).trans x5
        try simp only [List.getElem_toArray, List.getElem_cons_zero, List.getElem_cons_succ]
        go_simp
        exact rfl
      try simp only [Act.put, List.setIfInBounds_toArray, List.set_cons_zero, List.set_cons_succ, List.getElem_toArray, List.getElem_cons_zero, List.getElem_cons_succ]
      refine mix.D_take (i := 35) (v := ?_) rfl (by kernel_rfl) (by kernel_rfl) (fun _ _ _ h => h) (Or.inl ⟨by first | rfl | simp [Region.wanted, yielded], ?_⟩) hb5 ?_
      rotate_left
      · intro w' hSw
        have z1 := (hSw.cell (p := ⟨g, 0, none⟩) hc7.lt).trans x0
        have z2 := (hSw.cell (p := ⟨d, 0, none⟩) hd7.lt).trans x1
        have z3 := (hSw.cell (p := ⟨d, 3, none⟩) hd7.lt).trans x3
        have z4 := (hSw.cell (p := ⟨q, 0, none⟩) hq7.lt).trans x4
        have z5 := (hSw.cell (p := ⟨q, 2, none⟩) hq7.lt).trans x5
        try simp only [List.getElem_toArray, List.getElem_cons_zero, List.getElem_cons_succ]
        go_simp
        exact rfl
      try simp only [Act.put, List.setIfInBounds_toArray, List.set_cons_zero, List.set_cons_succ, List.getElem_toArray, List.getElem_cons_zero, List.getElem_cons_succ]
      refine mix.D_take (i := 36) (v := ?_) rfl (by kernel_rfl) (by kernel_rfl) (fun _ _ _ h => h) (Or.inl ⟨by first | rfl | simp [Region.wanted, yielded], ?_⟩) hb5 ?_
      rotate_left
      · intro w' hSw
        have z1 := (hSw.cell (p := ⟨g, 0, none⟩) hc7.lt).trans x0
        have z2 := (hSw.cell (p := ⟨d, 0, none⟩) hd7.lt).trans x1
        have z3 := (hSw.cell (p := ⟨d, 3, none⟩) hd7.lt).trans x3
        have z4 := (hSw.cell (p := ⟨q, 0, none⟩) hq7.lt).trans x4
        have z5 := (hSw.cell (p := ⟨q, 2, none⟩) hq7.lt).trans x5
        try simp only [List.getElem_toArray, List.getElem_cons_zero, List.getElem_cons_succ]
        go_simp
        exact rfl
      try simp only [Act.put, List.setIfInBounds_toArray, List.set_cons_zero, List.set_cons_succ, List.getElem_toArray, List.getElem_cons_zero, List.getElem_cons_succ]
      refine mix.D_take (i := 38) (v := ?_) rfl (by kernel_rfl) (by kernel_rfl) (fun _ _ _ h => h) (Or.inl ⟨by first | rfl | simp [Region.wanted, yielded], ?_⟩) hb5 ?_
      rotate_left
      · intro w' hSw
        have z1 := (hSw.cell (p := ⟨g, 0, none⟩) hc7.lt).trans x0
        have z2 := (hSw.cell (p := ⟨d, 0, none⟩) hd7.lt).trans x1
        have z3 := (hSw.cell (p := ⟨d, 3, none⟩) hd7.lt).trans x3
        have z4 := (hSw.cell (p := ⟨q, 0, none⟩) hq7.lt).trans x4
        have z5 := (hSw.cell (p := ⟨q, 2, none⟩) hq7.lt).trans x5
        try simp only [List.getElem_toArray, List.getElem_cons_zero, List.getElem_cons_succ]
        go_simp
        exact rfl
      try simp only [Act.put, List.setIfInBounds_toArray, List.set_cons_zero, List.set_cons_succ, List.getElem_toArray, List.getElem_cons_zero, List.getElem_cons_succ]
      refine mix.D_take (i := 39) (v := ?_) rfl (by kernel_rfl) (by kernel_rfl) (fun _ _ _ h => h) (Or.inl ⟨by first | rfl | simp [Region.wanted, yielded], ?_⟩) hb5 ?_
      rotate_left
      · intro w' hSw
        have z1 := (hSw.cell (p := ⟨g, 0, none⟩) hc7.lt).trans x0
        have z2 := (hSw.cell (p := ⟨d, 0, none⟩) hd7.lt).trans x1
        have z3 := (hSw.cell (p := ⟨d, 3, none⟩) hd7.lt).trans x3
        have z4 := (hSw.cell (p := ⟨q, 0, none⟩) hq7.lt).trans x4
        have z5 := (hSw.cell (p := ⟨q, 2, none⟩) hq7.lt).trans x5
        try simp only [List.getElem_toArray, List.getElem_cons_zero, List.getElem_cons_succ]
        go_simp
        exact rfl
      try simp only [Act.put, List.setIfInBounds_toArray, List.set_cons_zero, List.set_cons_succ, List.getElem_toArray, List.getElem_cons_zero, List.getElem_cons_succ]
      refine mix.D_take (i := 40) (v := ?_) rfl (by kernel_rfl) (by kernel_rfl) (fun _ _ _ h => h) (Or.inl ⟨by first | rfl | simp [Region.wanted, yielded], ?_⟩) hb5 ?_
      rotate_left
      · intro w' hSw
        have z1 := (hSw.cell (p := ⟨g, 0, none⟩) hc7.lt).trans x0
        have z2 := (hSw.cell (p := ⟨d, 0, none⟩) hd7.lt).trans x1
        have z3 := (hSw.cell (p := ⟨d, 3, none⟩) hd7.lt).trans x3
        have z4 := (hSw.cell (p := ⟨q, 0, none⟩) hq7.lt).trans x4
        have z5 := (hSw.cell (p := ⟨q, 2, none⟩) hq7.lt).trans x5
        try simp only [List.getElem_toArray, List.getElem_cons_zero, List.getElem_cons_succ]
        go_simp
        exact rfl
      try simp only [Act.put, List.setIfInBounds_toArray, List.set_cons_zero, List.set_cons_succ, List.getElem_toArray, List.getElem_cons_zero, List.getElem_cons_succ]
      refine mix.D_take (i := 41) (v := ?_) rfl (by kernel_rfl) (by kernel_rfl) (fun _ _ _ h => h) (Or.inl ⟨by first | rfl | simp [Region.wanted, yielded], ?_⟩) hb5 ?_
      rotate_left
      · intro w' hSw
        have z1 := (hSw.cell (p := ⟨g, 0, none⟩) hc7.lt).trans x0
        have z2 := (hSw.cell (p := ⟨d, 0, none⟩) hd7.lt).trans x1
        have z3 := (hSw.cell (p := ⟨d, 3, none⟩) hd7.lt).trans x3
        have z4 := (hSw.cell (p := ⟨q, 0, none⟩) hq7.lt).trans x4
        have z5 := (hSw.cell (p := ⟨q, 2, none⟩) hq7.lt).trans x5
        try simp only [List.getElem_toArray, List.getElem_cons_zero, List.getElem_cons_succ]
        go_simp
        exact rfl
      try simp only [Act.put, List.setIfInBounds_toArray, List.set_cons_zero, List.set_cons_succ, List.getElem_toArray, List.getElem_cons_zero, List.getElem_cons_succ]
      refine mix.D_opW (k := 37) rfl (by kernel_rfl) (by first | rfl | simp [Region.wanted, yielded]) (fun K' hK => ?_)
      simp only [List.getElem_toArray, List.getElem_cons_zero, List.getElem_cons_succ]
      have hcN := hc7.below hb5 hc7.lt
      have hdN := hd7.below hb5 hd7.lt
      have hpN := hp7.below hb5 hp7.lt
      have hqN := hq7.below hb5 hq7.lt
      have hcall := left_ok hpN hI
      clear hcN hdN hpN hqN
      go_wp2_with fail
      refine hcall.mono ?_
      clear hcall
      rintro e wb6 ⟨rfl, rfl⟩
      have hb6 := hb5
      refine hK.out _ _ (fun _ => hb6) ?_
      clear hK K'
      try simp only [Act.put, List.setIfInBounds_toArray, List.set_cons_zero, List.set_cons_succ]
      refine mix.D_opW (k := 42) rfl (by kernel_rfl) (by first | rfl | simp [Region.wanted, yielded]) (fun K' hK => ?_)
      simp only [List.getElem_toArray, List.getElem_cons_zero, List.getElem_cons_succ]
      have hcN := hc7.below hb6 hc7.lt
      have hdN := hd7.below hb6 hd7.lt
      have hpN := hp7.below hb6 hp7.lt
      have hqN := hq7.below hb6 hq7.lt
      have hcall := refLeft_ok hqN hI
      clear hcN hdN hpN hqN
      go_wp2_with fail
      refine hcall.mono ?_
      clear hcall
      rintro e wb7 ⟨rfl, rfl⟩
      have hb7 := hb6
      refine hK.out _ _ (fun _ => hb7) ?_
      clear hK K'
      try simp only [Act.put, List.setIfInBounds_toArray, List.set_cons_zero, List.set_cons_succ]
      refine mix.D_take (i := 43) (v := ?_) rfl (by kernel_rfl) (by kernel_rfl) (fun _ _ _ h => h) (Or.inl ⟨by first | rfl | simp [Region.wanted, yielded], ?_⟩) hb7 ?_
      rotate_left
      · intro w' hSw
        have z1 := (hSw.cell (p := ⟨g, 0, none⟩) hc7.lt).trans x0
        have z2 := (hSw.cell (p := ⟨d, 0, none⟩) hd7.lt).trans x1
        have z3 := (hSw.cell (p := ⟨d, 3, none⟩) hd7.lt).trans x3
        have z4 := (hSw.cell (p := ⟨q, 0, none⟩) hq7.lt).trans x4
        have z5 := (hSw.cell (p := ⟨q, 2, none⟩) hq7.lt).trans x5
        try simp only [List.getElem_toArray, List.getElem_cons_zero, List.getElem_cons_succ]
        go_simp
        exact rfl
      try simp only [Act.put, List.setIfInBounds_toArray, List.set_cons_zero, List.set_cons_succ, List.getElem_toArray, List.getElem_cons_zero, List.getElem_cons_succ]
      refine mix.D_take (i := 44) (v := ?_) rfl (by kernel_rfl) (by kernel_rfl) (fun _ _ _ h => h) (Or.inl ⟨by first | rfl | simp [Region.wanted, yielded], ?_⟩) hb7 ?_
      rotate_left
      · intro w' hSw
        have z1 := (hSw.cell (p := ⟨g, 0, none⟩) hc7.lt).trans x0
        have z2 := (hSw.cell (p := ⟨d, 0, none⟩) hd7.lt).trans x1
        have z3 := (hSw.cell (p := ⟨d, 3, none⟩) hd7.lt).trans x3
        have z4 := (hSw.cell (p := ⟨q, 0, none⟩) hq7.lt).trans x4
        have z5 := (hSw.cell (p := ⟨q, 2, none⟩) hq7.lt).trans x5
        try simp only [List.getElem_toArray, List.getElem_cons_zero, List.getElem_cons_succ]
        go_simp
        exact rfl
      try simp only [Act.put, List.setIfInBounds_toArray, List.set_cons_zero, List.set_cons_succ, List.getElem_toArray, List.getElem_cons_zero, List.getElem_cons_succ]
      refine mix.D_take (i := 45) (v := ?_) rfl (by kernel_rfl) (by kernel_rfl) (fun _ _ _ h => h) (Or.inl ⟨by first | rfl | simp [Region.wanted, yielded], ?_⟩) hb7 ?_
      rotate_left
      · intro w' hSw
        have z1 := (hSw.cell (p := ⟨g, 0, none⟩) hc7.lt).trans x0
        have z2 := (hSw.cell (p := ⟨d, 0, none⟩) hd7.lt).trans x1
        have z3 := (hSw.cell (p := ⟨d, 3, none⟩) hd7.lt).trans x3
        have z4 := (hSw.cell (p := ⟨q, 0, none⟩) hq7.lt).trans x4
        have z5 := (hSw.cell (p := ⟨q, 2, none⟩) hq7.lt).trans x5
        try simp only [List.getElem_toArray, List.getElem_cons_zero, List.getElem_cons_succ]
        go_simp
        exact rfl
      try simp only [Act.put, List.setIfInBounds_toArray, List.set_cons_zero, List.set_cons_succ, List.getElem_toArray, List.getElem_cons_zero, List.getElem_cons_succ]
      refine mix.D_take (i := 46) (v := ?_) rfl (by kernel_rfl) (by kernel_rfl) (fun _ _ _ h => h) (Or.inl ⟨by first | rfl | simp [Region.wanted, yielded], ?_⟩) hb7 ?_
      rotate_left
      · intro w' hSw
        have z1 := (hSw.cell (p := ⟨g, 0, none⟩) hc7.lt).trans x0
        have z2 := (hSw.cell (p := ⟨d, 0, none⟩) hd7.lt).trans x1
        have z3 := (hSw.cell (p := ⟨d, 3, none⟩) hd7.lt).trans x3
        have z4 := (hSw.cell (p := ⟨q, 0, none⟩) hq7.lt).trans x4
        have z5 := (hSw.cell (p := ⟨q, 2, none⟩) hq7.lt).trans x5
        try simp only [List.getElem_toArray, List.getElem_cons_zero, List.getElem_cons_succ]
        go_simp
        exact rfl
      try simp only [Act.put, List.setIfInBounds_toArray, List.set_cons_zero, List.set_cons_succ, List.getElem_toArray, List.getElem_cons_zero, List.getElem_cons_succ]
      refine mix.D_take (i := 47) (v := ?_) rfl (by kernel_rfl) (by kernel_rfl) (fun _ _ _ h => h) (Or.inl ⟨by first | rfl | simp [Region.wanted, yielded], ?_⟩) hb7 ?_
      rotate_left
      · intro w' hSw
        have z1 := (hSw.cell (p := ⟨g, 0, none⟩) hc7.lt).trans x0
        have z2 := (hSw.cell (p := ⟨d, 0, none⟩) hd7.lt).trans x1
        have z3 := (hSw.cell (p := ⟨d, 3, none⟩) hd7.lt).trans x3
        have z4 := (hSw.cell (p := ⟨q, 0, none⟩) hq7.lt).trans x4
        have z5 := (hSw.cell (p := ⟨q, 2, none⟩) hq7.lt).trans x5
        try simp only [List.getElem_toArray, List.getElem_cons_zero, List.getElem_cons_succ]
        go_simp
        exact rfl
      try simp only [Act.put, List.setIfInBounds_toArray, List.set_cons_zero, List.set_cons_succ, List.getElem_toArray, List.getElem_cons_zero, List.getElem_cons_succ]
      refine mix.D_take (i := 48) (v := ?_) rfl (by kernel_rfl) (by kernel_rfl) (fun _ _ _ h => h) (Or.inl ⟨by first | rfl | simp [Region.wanted, yielded], ?_⟩) hb7 ?_
      rotate_left
      · intro w' hSw
        have z1 := (hSw.cell (p := ⟨g, 0, none⟩) hc7.lt).trans x0
        have z2 := (hSw.cell (p := ⟨d, 0, none⟩) hd7.lt).trans x1
        have z3 := (hSw.cell (p := ⟨d, 3, none⟩) hd7.lt).trans x3
        have z4 := (hSw.cell (p := ⟨q, 0, none⟩) hq7.lt).trans x4
        have z5 := (hSw.cell (p := ⟨q, 2, none⟩) hq7.lt).trans x5
        try simp only [List.getElem_toArray, List.getElem_cons_zero, List.getElem_cons_succ]
        go_simp
        exact rfl
      try simp only [Act.put, List.setIfInBounds_toArray, List.set_cons_zero, List.set_cons_succ, List.getElem_toArray, List.getElem_cons_zero, List.getElem_cons_succ]
      refine mix.D_take (i := 49) (v := ?_) rfl (by kernel_rfl) (by kernel_rfl) (fun _ _ _ h => h) (Or.inl ⟨by first | rfl | simp [Region.wanted, yielded], ?_⟩) hb7 ?_
      rotate_left
      · intro w' hSw
        have z1 := (hSw.cell (p := ⟨g, 0, none⟩) hc7.lt).trans x0
        have z2 := (hSw.cell (p := ⟨d, 0, none⟩) hd7.lt).trans x1
        have z3 := (hSw.cell (p := ⟨d, 3, none⟩) hd7.lt).trans x3
        have z4 := (hSw.cell (p := ⟨q, 0, none⟩) hq7.lt).trans x4
        have z5 := (hSw.cell (p := ⟨q, 2, none⟩) hq7.lt).trans x5
        try simp only [List.getElem_toArray, List.getElem_cons_zero, List.getElem_cons_succ]
        go_simp
        exact rfl
      try simp only [Act.put, List.setIfInBounds_toArray, List.set_cons_zero, List.set_cons_succ, List.getElem_toArray, List.getElem_cons_zero, List.getElem_cons_succ]
      refine mix.D_take (i := 51) (v := ?_) rfl (by kernel_rfl) (by kernel_rfl) (fun _ _ _ h => h) (Or.inl ⟨by first | rfl | simp [Region.wanted, yielded], ?_⟩) hb7 ?_
      rotate_left
      · intro w' hSw
        have z1 := (hSw.cell (p := ⟨g, 0, none⟩) hc7.lt).trans x0
        have z2 := (hSw.cell (p := ⟨d, 0, none⟩) hd7.lt).trans x1
        have z3 := (hSw.cell (p := ⟨d, 3, none⟩) hd7.lt).trans x3
        have z4 := (hSw.cell (p := ⟨q, 0, none⟩) hq7.lt).trans x4
        have z5 := (hSw.cell (p := ⟨q, 2, none⟩) hq7.lt).trans x5
        try simp only [List.getElem_toArray, List.getElem_cons_zero, List.getElem_cons_succ]
        go_simp
        exact rfl
      try simp only [Act.put, List.setIfInBounds_toArray, List.set_cons_zero, List.set_cons_succ, List.getElem_toArray, List.getElem_cons_zero, List.getElem_cons_succ]
      refine mix.D_take (i := 52) (v := ?_) rfl (by kernel_rfl) (by kernel_rfl) (fun _ _ _ h => h) (Or.inl ⟨by first | rfl | simp [Region.wanted, yielded], ?_⟩) hb7 ?_
      rotate_left
      · intro w' hSw
        have z1 := (hSw.cell (p := ⟨g, 0, none⟩) hc7.lt).trans x0
        have z2 := (hSw.cell (p := ⟨d, 0, none⟩) hd7.lt).trans x1
        have z3 := (hSw.cell (p := ⟨d, 3, none⟩) hd7.lt).trans x3
        have z4 := (hSw.cell (p := ⟨q, 0, none⟩) hq7.lt).trans x4
        have z5 := (hSw.cell (p := ⟨q, 2, none⟩) hq7.lt).trans x5
        try simp only [List.getElem_toArray, List.getElem_cons_zero, List.getElem_cons_succ]
        go_simp
        exact rfl
      try simp only [Act.put, List.setIfInBounds_toArray, List.set_cons_zero, List.set_cons_succ, List.getElem_toArray, List.getElem_cons_zero, List.getElem_cons_succ]
      refine mix.D_take (i := 53) (v := ?_) rfl (by kernel_rfl) (by kernel_rfl) (fun _ _ _ h => h) (Or.inl ⟨by first | rfl | simp [Region.wanted, yielded], ?_⟩) hb7 ?_
      rotate_left
      · intro w' hSw
        have z1 := (hSw.cell (p := ⟨g, 0, none⟩) hc7.lt).trans x0
        have z2 := (hSw.cell (p := ⟨d, 0, none⟩) hd7.lt).trans x1
        have z3 := (hSw.cell (p := ⟨d, 3, none⟩) hd7.lt).trans x3
        have z4 := (hSw.cell (p := ⟨q, 0, none⟩) hq7.lt).trans x4
        have z5 := (hSw.cell (p := ⟨q, 2, none⟩) hq7.lt).trans x5
        try simp only [List.getElem_toArray, List.getElem_cons_zero, List.getElem_cons_succ]
        go_simp
        exact rfl
      try simp only [Act.put, List.setIfInBounds_toArray, List.set_cons_zero, List.set_cons_succ, List.getElem_toArray, List.getElem_cons_zero, List.getElem_cons_succ]
      refine mix.D_take (i := 54) (v := ?_) rfl (by kernel_rfl) (by kernel_rfl) (fun _ _ _ h => h) (Or.inl ⟨by first | rfl | simp [Region.wanted, yielded], ?_⟩) hb7 ?_
      rotate_left
      · intro w' hSw
        have z1 := (hSw.cell (p := ⟨g, 0, none⟩) hc7.lt).trans x0
        have z2 := (hSw.cell (p := ⟨d, 0, none⟩) hd7.lt).trans x1
        have z3 := (hSw.cell (p := ⟨d, 3, none⟩) hd7.lt).trans x3
        have z4 := (hSw.cell (p := ⟨q, 0, none⟩) hq7.lt).trans x4
        have z5 := (hSw.cell (p := ⟨q, 2, none⟩) hq7.lt).trans x5
        try simp only [List.getElem_toArray, List.getElem_cons_zero, List.getElem_cons_succ]
        go_simp
        exact rfl
      try simp only [Act.put, List.setIfInBounds_toArray, List.set_cons_zero, List.set_cons_succ, List.getElem_toArray, List.getElem_cons_zero, List.getElem_cons_succ]
      refine mix.D_take (i := 55) (v := ?_) rfl (by kernel_rfl) (by kernel_rfl) (fun _ _ _ h => h) (Or.inl ⟨by first | rfl | simp [Region.wanted, yielded], ?_⟩) hb7 ?_
      rotate_left
      · intro w' hSw
        have z1 := (hSw.cell (p := ⟨g, 0, none⟩) hc7.lt).trans x0
        have z2 := (hSw.cell (p := ⟨d, 0, none⟩) hd7.lt).trans x1
        have z3 := (hSw.cell (p := ⟨d, 3, none⟩) hd7.lt).trans x3
        have z4 := (hSw.cell (p := ⟨q, 0, none⟩) hq7.lt).trans x4
        have z5 := (hSw.cell (p := ⟨q, 2, none⟩) hq7.lt).trans x5
        try simp only [List.getElem_toArray, List.getElem_cons_zero, List.getElem_cons_succ]
        go_simp
        exact rfl
      try simp only [Act.put, List.setIfInBounds_toArray, List.set_cons_zero, List.set_cons_succ, List.getElem_toArray, List.getElem_cons_zero, List.getElem_cons_succ]
      refine mix.D_take (i := 56) (v := ?_) rfl (by kernel_rfl) (by kernel_rfl) (fun _ _ _ h => h) (Or.inl ⟨by first | rfl | simp [Region.wanted, yielded], ?_⟩) hb7 ?_
      rotate_left
      · intro w' hSw
        have z1 := (hSw.cell (p := ⟨g, 0, none⟩) hc7.lt).trans x0
        have z2 := (hSw.cell (p := ⟨d, 0, none⟩) hd7.lt).trans x1
        have z3 := (hSw.cell (p := ⟨d, 3, none⟩) hd7.lt).trans x3
        have z4 := (hSw.cell (p := ⟨q, 0, none⟩) hq7.lt).trans x4
        have z5 := (hSw.cell (p := ⟨q, 2, none⟩) hq7.lt).trans x5
        try simp only [List.getElem_toArray, List.getElem_cons_zero, List.getElem_cons_succ]
        go_simp
        exact rfl
      try simp only [Act.put, List.setIfInBounds_toArray, List.set_cons_zero, List.set_cons_succ, List.getElem_toArray, List.getElem_cons_zero, List.getElem_cons_succ]
      refine mix.D_take (i := 57) (v := ?_) rfl (by kernel_rfl) (by kernel_rfl) (fun _ _ _ h => h) (Or.inl ⟨by first | rfl | simp [Region.wanted, yielded], ?_⟩) hb7 ?_
      rotate_left
      · intro w' hSw
        have z1 := (hSw.cell (p := ⟨g, 0, none⟩) hc7.lt).trans x0
        have z2 := (hSw.cell (p := ⟨d, 0, none⟩) hd7.lt).trans x1
        have z3 := (hSw.cell (p := ⟨d, 3, none⟩) hd7.lt).trans x3
        have z4 := (hSw.cell (p := ⟨q, 0, none⟩) hq7.lt).trans x4
        have z5 := (hSw.cell (p := ⟨q, 2, none⟩) hq7.lt).trans x5
        try simp only [List.getElem_toArray, List.getElem_cons_zero, List.getElem_cons_succ]
        go_simp
        exact rfl
      try simp only [Act.put, List.setIfInBounds_toArray, List.set_cons_zero, List.set_cons_succ, List.getElem_toArray, List.getElem_cons_zero, List.getElem_cons_succ]
      refine mix.D_opW (k := 50) rfl (by kernel_rfl) (by first | rfl | simp [Region.wanted, yielded]) (fun K' hK => ?_)
      simp only [List.getElem_toArray, List.getElem_cons_zero, List.getElem_cons_succ]
      have hcN := hc7.below hb7 hc7.lt
      have hdN := hd7.below hb7 hd7.lt
      have hpN := hp7.below hb7 hp7.lt
      have hqN := hq7.below hb7 hq7.lt
      have hcall := writes_ok hpN hI
      clear hcN hdN hpN hqN
      go_wp2_with fail
      refine hcall.mono ?_
      clear hcall
      rintro e wb8 ⟨rfl, rfl⟩
      have hb8 := hb7
      refine hK.out _ _ (fun _ => hb8) ?_
      clear hK K'
      try simp only [Act.put, List.setIfInBounds_toArray, List.set_cons_zero, List.set_cons_succ]
      refine mix.D_take (i := 58) (v := ?_) rfl (by kernel_rfl) (by kernel_rfl) (fun _ _ _ h => h) (Or.inl ⟨by first | rfl | simp [Region.wanted, yielded], ?_⟩) hb8 ?_
      rotate_left
      · intro w' hSw
        have z1 := (hSw.cell (p := ⟨g, 0, none⟩) hc7.lt).trans x0
        have z2 := (hSw.cell (p := ⟨d, 0, none⟩) hd7.lt).trans x1
        have z3 := (hSw.cell (p := ⟨d, 3, none⟩) hd7.lt).trans x3
        have z4 := (hSw.cell (p := ⟨q, 0, none⟩) hq7.lt).trans x4
        have z5 := (hSw.cell (p := ⟨q, 2, none⟩) hq7.lt).trans x5
        try simp only [List.getElem_toArray, List.getElem_cons_zero, List.getElem_cons_succ]
        go_simp
        exact rfl
      try simp only [Act.put, List.setIfInBounds_toArray, List.set_cons_zero, List.set_cons_succ, List.getElem_toArray, List.getElem_cons_zero, List.getElem_cons_succ]
      refine mix.D_take (i := 59) (v := ?_) rfl (by kernel_rfl) (by kernel_rfl) (fun _ _ _ h => h) (Or.inl ⟨by first | rfl | simp [Region.wanted, yielded], ?_⟩) hb8 ?_
      rotate_left
      · intro w' hSw
        have z1 := (hSw.cell (p := ⟨g, 0, none⟩) hc7.lt).trans x0
        have z2 := (hSw.cell (p := ⟨d, 0, none⟩) hd7.lt).trans x1
        have z3 := (hSw.cell (p := ⟨d, 3, none⟩) hd7.lt).trans x3
        have z4 := (hSw.cell (p := ⟨q, 0, none⟩) hq7.lt).trans x4
        have z5 := (hSw.cell (p := ⟨q, 2, none⟩) hq7.lt).trans x5
        try simp only [List.getElem_toArray, List.getElem_cons_zero, List.getElem_cons_succ]
        go_simp
        exact rfl
      try simp only [Act.put, List.setIfInBounds_toArray, List.set_cons_zero, List.set_cons_succ, List.getElem_toArray, List.getElem_cons_zero, List.getElem_cons_succ]
      refine mix.D_take (i := 60) (v := ?_) rfl (by kernel_rfl) (by kernel_rfl) (fun _ _ _ h => h) (Or.inl ⟨by first | rfl | simp [Region.wanted, yielded], ?_⟩) hb8 ?_
      rotate_left
      · intro w' hSw
        have z1 := (hSw.cell (p := ⟨g, 0, none⟩) hc7.lt).trans x0
        have z2 := (hSw.cell (p := ⟨d, 0, none⟩) hd7.lt).trans x1
        have z3 := (hSw.cell (p := ⟨d, 3, none⟩) hd7.lt).trans x3
        have z4 := (hSw.cell (p := ⟨q, 0, none⟩) hq7.lt).trans x4
        have z5 := (hSw.cell (p := ⟨q, 2, none⟩) hq7.lt).trans x5
        try simp only [List.getElem_toArray, List.getElem_cons_zero, List.getElem_cons_succ]
        go_simp
        exact rfl
      try simp only [Act.put, List.setIfInBounds_toArray, List.set_cons_zero, List.set_cons_succ, List.getElem_toArray, List.getElem_cons_zero, List.getElem_cons_succ]
      refine mix.D_done (by kernel_rfl) ?_ _
      try simp only [Act.put, List.setIfInBounds_toArray, List.set_cons_zero, List.set_cons_succ, List.getElem_toArray, List.getElem_cons_zero, List.getElem_cons_succ]
      go_wp2_with fail
      go_ret
      exact ⟨rfl, hbw.trans (hb8.mono hbw.size)⟩
end
end Go.Proofs.Ytnndohdiiglgmaa.cells
