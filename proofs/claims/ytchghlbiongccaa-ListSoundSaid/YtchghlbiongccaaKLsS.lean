/- A tree looked over: lows, shapeOf. -/
import Derived.Test.YtchghlbiongccaaKLsR
import Derived.Test.YtchghlbiongccaaKLsB


namespace Go.Proofs.Ytchghlbiongccaa.trees
set_option linter.unusedVariables false
set_option linter.unusedSimpArgs false
open Go.RowKit Go.Proofs.Ytchghlbiongccaa.base Go.Proofs.Ytchghlbiongccaa.vers Go.Proofs.Ytchghlbiongccaa.nodes Go.Proofs.Ytchghlbiongccaa.quotas

theorem keep_setq {w0 wr : World} {P : Nat → Prop} (h1 : Keep P w0 wr) {b : Nat} (hb : P b) (o : Nat) (u : Value) : Keep P w0 (wr.setCell ⟨b, o, none⟩ u) :=
  ⟨h1.os, h1.tape, h1.output, by simpa using h1.size, fun k hk hn => by
    rw [Below.heap_setCell _ _ _ _ (by simp; exact fun e => hn (e ▸ hb))]
    exact h1.block k hk hn⟩
theorem Good.at_ : ∀ {l : List SN} (h : Good (ps l)) {j : Nat} (hj : j < l.length), KB (l[j].1 + 1) l[j].2.2.ks (ps (l.drop (j + 1)))
  | s :: l, h, 0, _ => h.1
  | s :: l, h, j + 1, hj => Good.at_ (l := l) h.2 (by simpa using hj)
theorem kb_cons {d : Nat} {k : K} {ks : List K} {l : List SP} (h : KB d (k :: ks) l) : hasDeep d l ∧ hasLeaf (dropTo d l) ∧ leastP (dropTo d l) = k.s ∧ KB d ks ((dropTo d l).drop 1) := h
theorem leaf_ne {l : List SN} (h : hasLeaf (ps l)) : 1 ≤ l.length := by
  cases l with
  | nil => obtain ⟨s, hs, _⟩ := h; cases hs
  | cons s l => simp

set_option maxRecDepth 100000 in
set_option maxHeartbeats 8000000 in
theorem lows_ok (l : List SN) (A : Option Addr) (c : Nat) (w : World) (hS : Sl w w.heap.size l A c) (hd9 : ∀ s ∈ l, s.1 ≤ 90) (hG : Good (ps l)) :
    Calls Try.prog 81 #[.slice A l.length c] w fun e w' => e = .returned (.bool true) ∧ Below w.heap.size w w' := by
  have hlen := hS.2.1
  have HS := vers.lay hS
  have HG := vers.lay hG
  have HD9 := vers.lay hd9
  clear hS hG hd9
  go_enter Try.func81, Try.ntmps81
  go_wp2_with fail
  go_loopw [10] (fun i wr => ∃ j : Nat, j ≤ l.length ∧ i = .int .i64 (j : Int) ∧ Below w.heap.size w wr) (fun i _ => l.length - (intOf i).toNat)
  case atStart => exact ⟨0, Nat.zero_le _, rfl, Below.refl _ _⟩
  case round =>
    obtain ⟨j, hj, rfl, hb⟩ := hrel
    by_cases hlt : j < l.length
    · obtain ⟨A9, c9, hrun9, hS9⟩ := run_fromSn HS.out (j + 1) hlt
      obtain ⟨bk, off, rfl, hbk, e0, e1, e2, e3, e4, e5, e6, e7⟩ := (HS.out.below hb).at_ hlt
      have hkb := Good.at_ HG.out hlt
      have hks := ((HS.out.2.2.2.2 _ (List.getElem_mem hlt)).2)
      have hs9 := HD9.out _ (List.getElem_mem hlt)
      have hg := trivial
      generalize l[j] = sx at *
      obtain ⟨sd, ⟨sk, sg, so, sn⟩, ⟨slf, es, ks, sA, sc, sQ, sm⟩⟩ := sx
      simp only [] at e0 e1 e2 e3 e4 e5 e6 e7 hkb hks hs9
      have b4 : Below wr.heap.size wr (wr.alloc (.cells #[.int .i64 (sd : Int), .int .u64 (sk : Int), .int .i64 sg, .int .i64 so, .int .i64 sn, .bool slf, .slice sA es.length sc, .slice sQ ks.length sm] 103)) := (Below.refl _ _).alloc (Nat.le_refl _) _
      have kB := Blk.new wr 103 #[.int .i64 (sd : Int), .int .u64 (sk : Int), .int .i64 sg, .int .i64 so, .int .i64 sn, .bool slf, .slice sA es.length sc, .slice sQ ks.length sm]
      have hbs := hb.size
      have hb4 := hb.trans (b4.mono hbs)
      generalize hWB : wr.alloc (.cells #[.int .i64 (sd : Int), .int .u64 (sk : Int), .int .i64 sg, .int .i64 so, .int .i64 sn, .bool slf, .slice sA es.length sc, .slice sQ ks.length sm] 103) = WB at *
      have c0 := kB.cell 0
      have c1 := kB.cell 1
      have c2 := kB.cell 2
      have c3 := kB.cell 3
      have c4 := kB.cell 4
      have c5 := kB.cell 5
      have c6 := kB.cell 6
      have c7 := kB.cell 7
      simp only [List.getElem?_toArray, List.getElem?_cons_zero, List.getElem?_cons_succ] at c0 c1 c2 c3 c4 c5 c6 c7
      have lB := kB.lt
      have hksl := hks.2.1
      have HKS := vers.lay hks
      have HKB := vers.lay hkb
      rw [show (((j + 1 : Nat)) : Int) = (j : Int) + 1 from rfl] at hrun9
      have hdl : (l.drop (j + 1)).length ≤ l.length := by rw [List.length_drop]; omega
      have HM9 := vers.lay (fun s hs => List.mem_of_mem_drop hs : ∀ s ∈ l.drop (j + 1), s ∈ l)
      have HS9 := vers.lay hS9
      clear hks hkb hS9
      generalize l.drop (j + 1) = l9 at *
      go_wp2_with fail
      clear e0 e1 e2 e3 e4 e5 e6 e7 c0 c1 c2 c3 c4 c5 c6 c7 hWB b4 hrun9
      generalize wr.heap.size = bx at *
      go_loopw [23, 5] (fun i v wi => ∃ (t : Nat) (l' : List SN) (A' : Option Addr) (c' : Nat), t ≤ ks.length ∧ i = .int .i64 (t : Int) ∧ v = .slice A' l'.length c' ∧ Below WB.heap.size WB wi ∧ Hid (Sl wi wi.heap.size l' A' c' ∧ KB (sd + 1) (ks.drop t) (ps l') ∧ ∀ s ∈ l', s ∈ l)) (fun i _ _ => ks.length - (intOf i).toNat)
      case atStart => exact ⟨0, l9, A9, c9, Nat.zero_le _, rfl, rfl, Below.refl _ _, vers.lay ⟨(HS9.out.below hb4).more hb4.size, HKB.out, HM9.out⟩⟩
      case round =>
        obtain ⟨t, l', A', c', ht, rfl, rfl, hbi, hH⟩ := hrel
        have hbw := hb4.trans (hbi.mono hb4.size)
        have kBi := kB.below hbi lB
        have s0 := kBi.cell 0
        have s7 := kBi.cell 7
        simp only [List.getElem?_toArray, List.getElem?_cons_zero, List.getElem?_cons_succ] at s0 s7
        have lBi := kBi.lt
        by_cases hlk : t < ks.length
        · obtain ⟨bq, oq, rfl, hbq, k0, k1, k2, k3, k4⟩ := (HKS.out.below hbw).at_ hlk
          have hkb := hH.out.2.1
          rw [List.drop_eq_getElem_cons hlk] at hkb
          obtain ⟨hd1, hd2, hd3, hd4⟩ := kb_cons hkb
          have hfr := fun wx (hx : Below wr.heap.size wr wx) => from_ok l' A' c' (sd + 1) wx (hH.out.1.at_world hx) hd1 (by omega) (fun s hs => by have := HD9.out s (hH.out.2.2 s hs); omega)
          generalize ks[t] = kx at *
          obtain ⟨kS, kk, kg, ko, kn⟩ := kx
          simp only [] at k0 k1 k2 k3 k4 hd3
          have bK : Below wr.heap.size wr (wr.alloc (.cells #[.string kS, .int .u64 (kk : Int), .int .i64 kg, .int .i64 ko, .int .i64 kn] 157)) := (Below.refl _ _).alloc (Nat.le_refl _) _
          have kK := Blk.new wr 157 #[.string kS, .int .u64 (kk : Int), .int .i64 kg, .int .i64 ko, .int .i64 kn]
          have hbK := hbi.trans (bK.mono hbi.size)
          have hwK := hbw.trans (bK.mono hbw.size)
          have kBK := kBi.below bK kBi.lt
          have hcall := hfr _ bK
          rw [show (((sd + 1 : Nat)) : Int) = (sd : Int) + 1 from rfl] at hcall
          have hszi := hbi.size
          clear hfr hkb hd1
          have HH := vers.lay (⟨hd2, hd3, hd4⟩ : _ ∧ _ ∧ _)
          clear hd2 hd3 hd4
          have hlK : wr.heap.size < (wr.alloc (.cells #[.string kS, .int .u64 (kk : Int), .int .i64 kg, .int .i64 ko, .int .i64 kn] 157)).heap.size := by simp
          generalize hWK : wr.alloc (.cells #[.string kS, .int .u64 (kk : Int), .int .i64 kg, .int .i64 ko, .int .i64 kn] 157) = WK at *
          have c0 := kK.cell 0
          simp only [List.getElem?_toArray, List.getElem?_cons_zero, List.getElem?_cons_succ] at c0
          have lK := kK.lt
          have s0K := kBK.cell 0
          simp only [List.getElem?_toArray, List.getElem?_cons_zero, List.getElem?_cons_succ] at s0K
          have lBK := kBK.lt
          go_wp2_with fail
          refine hcall.mono ?_
          rintro e w5 ⟨l5, A5, c5, rfl, hS5, hps5, hm5, rfl⟩
          clear hcall k0 k1 k2 k3 k4 s0 s7
          have hleaf : hasLeaf (ps l5) := by rw [hps5]; exact HH.out.1
          have hl5 := leaf_ne hleaf
          have hlow : leastP (ps l5) = kS := by rw [hps5]; exact HH.out.2.1
          have hle := fun wx (hx : Below w5.heap.size w5 wx) => least_ok l5 A5 c5 wx (hS5.at_world hx) hleaf
          rw [hlow] at hle
          obtain ⟨A6, c6, hrun6, hS6⟩ := run_fromSn hS5 1 hl5
          rw [show (((1 : Nat)) : Int) = 1 from rfl] at hrun6
          have HK6 := vers.lay (show KB (sd + 1) (ks.drop (t + 1)) (ps (l5.drop 1)) by rw [ps_drop, hps5]; exact HH.out.2.2)
          have HM6 := vers.lay (fun s hs => hH.out.2.2 s (hm5 s (List.mem_of_mem_drop hs)) : ∀ s ∈ l5.drop 1, s ∈ l)
          have HS6 := vers.lay hS6
          have HS5 := vers.lay hS5
          clear hS6 hS5 hps5 hm5 hleaf hlow HH hH
          generalize l5.drop 1 = l6 at *
          go_wp2_with fail
          have hS0 : Below w5.heap.size w5 w5.drew := (Below.refl _ _).drew
          refine mix.region_D (fun w' => Below w5.heap.size w5 w') (fun j => j == 4) (by kernel_rfl) ?_
          refine mix.D_takeT (i := 0) (v := ?_) rfl (by kernel_rfl) (by kernel_rfl) (fun _ _ _ h => h) (Or.inl ⟨by rfl, ?_⟩) hS0 ?_
          rotate_left
          · intro w' hSw
            try simp only [List.getElem_toArray, List.getElem_cons_zero, List.getElem_cons_succ]
            go_simp
            exact rfl
          try simp only [Act.put, List.setIfInBounds_toArray, List.set_cons_zero, List.set_cons_succ, List.getElem_toArray, List.getElem_cons_zero, List.getElem_cons_succ]
          refine mix.D_takeT (i := 1) (v := ?_) rfl (by kernel_rfl) (by kernel_rfl) (fun _ _ _ h => h) (Or.inl ⟨by rfl, ?_⟩) hS0 ?_
          rotate_left
          · intro w' hSw
            have y0 := (hSw.cell (p := ⟨wr.heap.size, 0, none⟩) lK).trans c0
            try simp only [List.getElem_toArray, List.getElem_cons_zero, List.getElem_cons_succ]
            go_simp
            exact rfl
          try simp only [Act.put, List.setIfInBounds_toArray, List.set_cons_zero, List.set_cons_succ, List.getElem_toArray, List.getElem_cons_zero, List.getElem_cons_succ]
          refine mix.D_takeT (i := 2) (v := ?_) rfl (by kernel_rfl) (by kernel_rfl) (fun _ _ _ h => h) (Or.inl ⟨by rfl, ?_⟩) hS0 ?_
          rotate_left
          · intro w' hSw
            try simp only [List.getElem_toArray, List.getElem_cons_zero, List.getElem_cons_succ]
            go_simp
            exact rfl
          try simp only [Act.put, List.setIfInBounds_toArray, List.set_cons_zero, List.set_cons_succ, List.getElem_toArray, List.getElem_cons_zero, List.getElem_cons_succ]
          refine mix.D_op (k := 3) rfl rfl (by kernel_rfl) (fun K' hK => ?_)
          simp only [List.getElem_toArray, List.getElem_cons_zero, List.getElem_cons_succ]
          go_wp2_with fail
          refine (hle _ hS0).mono ?_
          rintro e w6 ⟨rfl, hb6⟩
          have hb56 : Below w5.heap.size w5 w6 := hS0.trans (hb6.mono hS0.size)
          refine hK.out _ _ (fun _ => hb56) ?_
          clear hK K'
          try simp only [Act.put, List.setIfInBounds_toArray, List.set_cons_zero, List.set_cons_succ]
          refine mix.D_op (k := 4) rfl rfl (by kernel_rfl) (fun K' hK => ?_)
          simp only [List.getElem_toArray, List.getElem_cons_zero, List.getElem_cons_succ]
          go_wp2_with fail
          refine hK.out _ _ (fun h => by simp at h) ?_
          clear hK K'
          refine mix.D_done (by kernel_rfl) ?_ _
          go_wp2_with fail
          exact ⟨⟨t + 1, l6, A6, c6, hlk, by go_num, rfl, hbK.trans (hb56.mono hbK.size), vers.lay ⟨HS6.out.at_world hb56, HK6.out, HM6.out⟩⟩, by first | (simp [intOf]; done) | (simp [intOf]; omega) | omega⟩
        · obtain rfl : t = ks.length := by omega
          go_wp2_with fail
          exact ⟨⟨j + 1, hlt, by go_num, hbw⟩, by first | (simp [intOf]; done) | (simp [intOf]; omega) | omega⟩
    · obtain rfl : j = l.length := by omega
      go_wp2_with fail
      go_ret
      exact ⟨rfl, hb⟩

set_option maxRecDepth 100000 in
set_option maxHeartbeats 8000000 in
theorem shapeOf_ok (l : List SN) (F : Nat → Prop) (A : Option Addr) (c D : Nat) (w : World) (hS : SeenF w F (.slice A l.length c) l) (hF : ∀ g, F g → g < w.heap.size) (hlen : (secretsN l).length ≤ 1000000) (hll : l.length ≤ 100000) (hD : D ≤ 100) (hmx : ∀ s ∈ l, s.1 ≤ D) (hat : ∃ s ∈ l, s.1 = D) (hn1 : ∀ s ∈ l, s.2.1.n = 1) :
    Calls Try.prog 77 #[.slice A l.length c] w fun e w' => e = .returned (.agg #[.int .i64 (D : Int), .int .i64 (l.length : Int), .int .i64 ((secretsN l).length : Int), .int .i64 (l.length : Int)]) ∧ Below w.heap.size w w' := by
  have hSl := Sl.of_seen hS (by omega)
  have bR : Below w.heap.size w (w.alloc (.cells #[.int .i64 (0), .int .i64 (0), .int .i64 (0), .int .i64 (0)] 74)) := (Below.refl _ _).alloc (Nat.le_refl _) _
  have kR := Blk.new w 74 #[.int .i64 (0), .int .i64 (0), .int .i64 (0), .int .i64 (0)]
  have hsec := secrets_ok l F (.slice A l.length c) (w.alloc (.cells #[.int .i64 (0), .int .i64 (0), .int .i64 (0), .int .i64 (0)] 74)) (hS.agree (fun g hg => bR.block g (hF g hg))) (fun g hg => Nat.lt_of_lt_of_le (hF g hg) bR.size) hlen (by omega)
  have lR : w.heap.size < (w.alloc (.cells #[.int .i64 (0), .int .i64 (0), .int .i64 (0), .int .i64 (0)] 74)).heap.size := by simp
  have HSL := vers.lay hSl
  have HMX := vers.lay hmx
  have HAT := vers.lay hat
  have HN1 := vers.lay hn1
  clear hSl hS hmx hat hn1
  generalize hWR : w.alloc (.cells #[.int .i64 (0), .int .i64 (0), .int .i64 (0), .int .i64 (0)] 74) = WR at *
  generalize secretsN l = le at *
  go_enter Try.func77, Try.ntmps77
  go_wp2_with fail
  refine hsec.mono ?_
  rintro e w1 ⟨hb1, v, rfl, hrow, _, _⟩
  obtain ⟨Av, cv, rfl, _⟩ := row_at hrow
  clear hsec hrow
  have b01 := bR.trans (hb1.mono bR.size)
  have kR1 := kR.below hb1 lR
  have bH : Below w1.heap.size w1 (w1.alloc (.cells #[.int .i64 (0), .int .i64 (0), .int .i64 (0), .int .i64 (0)] 74)) := (Below.refl _ _).alloc (Nat.le_refl _) _
  have kH0 := Blk.new w1 74 #[.int .i64 (0), .int .i64 (0), .int .i64 (0), .int .i64 (0)]
  have hs1 := b01.size
  have sH0 : w1.heap.size < (w1.alloc (.cells #[.int .i64 (0), .int .i64 (0), .int .i64 (0), .int .i64 (0)] 74)).heap.size := by simp
  generalize hWH : w1.alloc (.cells #[.int .i64 (0), .int .i64 (0), .int .i64 (0), .int .i64 (0)] 74) = WH0 at *
  have d0 := kH0.cell 0
  have d1 := kH0.cell 1
  have d2 := kH0.cell 2
  have d3 := kH0.cell 3
  simp only [List.getElem?_toArray, List.getElem?_cons_zero, List.getElem?_cons_succ] at d0 d1 d2 d3
  have f0 := kH0.frozen 0
  have f1 := kH0.frozen 1
  have f2 := kH0.frozen 2
  have f3 := kH0.frozen 3
  go_wp2_with fail
  have kH := (((kH0.put 0 (.int .i64 0)).put 1 (.int .i64 (l.length : Int))).put 2 (.int .i64 (le.length : Int))).put 3 (.int .i64 0)
  have b12 := four4_below bH (g := w1.heap.size) (Nat.le_refl _) (.int .i64 0) (.int .i64 (l.length : Int)) (.int .i64 (le.length : Int)) (.int .i64 0)
  unfold four4 at b12
  simp only [List.setIfInBounds_toArray, List.set_cons_zero, List.set_cons_succ] at kH
  clear d0 d1 d2 d3 f0 f1 f2 f3
  generalize (((WH0.setCell ⟨w1.heap.size, 0, none⟩ (.int .i64 0)).setCell ⟨w1.heap.size, 1, none⟩ (.int .i64 (l.length : Int))).setCell ⟨w1.heap.size, 2, none⟩ (.int .i64 (le.length : Int))).setCell ⟨w1.heap.size, 3, none⟩ (.int .i64 0) = WH at *
  have b02 := b01.trans (b12.mono hs1)
  have kR2 := kR1.below b12 kR1.lt
  have lR1 := kR1.lt
  have lR2 : w.heap.size < w1.heap.size := by have := hb1.size; omega
  clear hWH bH kH0 sH0 b12
  generalize w1.heap.size = g at *
  have kHl := kH.lt
  go_loopw [14] (fun i wr => ∃ j M : Nat, j ≤ l.length ∧ i = .int .i64 (j : Int) ∧ Keep (fun k => k = g) WH wr ∧ Blk wr g 74 #[.int .i64 (M : Int), .int .i64 (l.length : Int), .int .i64 (le.length : Int), .int .i64 (j : Int)] ∧ Hid (M ≤ D ∧ ∀ s ∈ l.take j, s.1 ≤ M)) (fun i _ => l.length - (intOf i).toNat)
  case atStart => exact ⟨0, 0, Nat.zero_le _, rfl, Keep.refl _ _, kH, vers.lay ⟨Nat.zero_le _, fun s hs => by simp at hs⟩⟩
  case round =>
    clear kH
    obtain ⟨j, M, hj, rfl, hk, kH, hM⟩ := hrel
    have hkb := hk.below (B := g) (fun g' e => Nat.le_of_eq e.symm) (Nat.le_of_lt kHl)
    by_cases hlt : j < l.length
    · obtain ⟨bk, off, rfl, hbk, e0, e1, e2, e3, e4, e5, e6, e7⟩ := ((HSL.out.below b02).below (hkb.mono hs1)).at_ hlt
      have hsx := HMX.out _ (List.getElem_mem hlt)
      have hsn := HN1.out _ (List.getElem_mem hlt)
      have htk : ∀ s ∈ l.take (j + 1), s ∈ l.take j ∨ s = l[j] := fun s hs => by
        rw [List.take_succ_eq_append_getElem hlt] at hs
        rcases List.mem_append.1 hs with h | h
        · exact .inl h
        · exact .inr (List.mem_singleton.1 h)
      obtain ⟨sx, hsxe⟩ : ∃ sx, sx = l[j] := ⟨_, rfl⟩
      rw [← hsxe] at e0 e1 e2 e3 e4 e5 e6 e7 hsx hsn htk
      clear hsxe
      obtain ⟨sd, ⟨sk, sg, so, sn⟩, ⟨slf, es, ks, sA, sc, sQ, sm⟩⟩ := sx
      simp only [] at e0 e1 e2 e3 e4 e5 e6 e7 hsx hsn
      subst hsn
      have b4 : Below wr.heap.size wr (wr.alloc (.cells #[.int .i64 (sd : Int), .int .u64 (sk : Int), .int .i64 sg, .int .i64 so, .int .i64 1, .bool slf, .slice sA es.length sc, .slice sQ ks.length sm] 103)) := (Below.refl _ _).alloc (Nat.le_refl _) _
      have kB := Blk.new wr 103 #[.int .i64 (sd : Int), .int .u64 (sk : Int), .int .i64 sg, .int .i64 so, .int .i64 1, .bool slf, .slice sA es.length sc, .slice sQ ks.length sm]
      have kH4 := kH.below b4 kH.lt
      have hk4 := hk.seq b4
      have hMM := hM.out.1
      have HTK := vers.lay (fun (M2 : Nat) (h1 : M ≤ M2) (h2 : sd ≤ M2) s hs => (htk s hs).elim (fun h => Nat.le_trans (hM.out.2 s h) h1) (fun h => by rw [h]; exact h2) : ∀ M2 : Nat, M ≤ M2 → sd ≤ M2 → ∀ s ∈ l.take (j + 1), s.1 ≤ M2)
      clear htk
      have hgw := kH.lt
      generalize hWB : wr.alloc (.cells #[.int .i64 (sd : Int), .int .u64 (sk : Int), .int .i64 sg, .int .i64 so, .int .i64 1, .bool slf, .slice sA es.length sc, .slice sQ ks.length sm] 103) = WB at *
      have c0 := kB.cell 0
      have c1 := kB.cell 1
      have c2 := kB.cell 2
      have c3 := kB.cell 3
      have c4 := kB.cell 4
      simp only [List.getElem?_toArray, List.getElem?_cons_zero, List.getElem?_cons_succ] at c0 c1 c2 c3 c4
      have d0 := kH4.cell 0
      have d1 := kH4.cell 1
      have d2 := kH4.cell 2
      have d3 := kH4.cell 3
      simp only [List.getElem?_toArray, List.getElem?_cons_zero, List.getElem?_cons_succ] at d0 d1 d2 d3
      have f0 := kH4.frozen 0
      have f3 := kH4.frozen 3
      have lB := kB.lt
      have lH := kH4.lt
      have nxg : wr.heap.size ≠ g := by omega
      have kz := (kH4.put 0 (.int .i64 (max (M : Int) (sd : Int)))).put 3 (.int .i64 ((j : Int) + 1))
      have kk := keep_setq (keep_setq hk4 (b := g) rfl 0 (.int .i64 (max (M : Int) (sd : Int)))) (b := g) rfl 3 (.int .i64 ((j : Int) + 1))
      simp only [List.setIfInBounds_toArray, List.set_cons_zero, List.set_cons_succ] at kz
      have HMX2 := vers.lay (show ((max M sd : Nat) : Int) = max (M : Int) (sd : Int) by omega)
      go_wp2_with fail
      exact ⟨⟨j + 1, max M sd, hlt, by go_num, kk, by rw [HMX2.out]; exact kz, vers.lay ⟨by omega, HTK.out (max M sd) (by omega) (by omega)⟩⟩, by first | (simp [intOf]; done) | (simp [intOf]; omega) | omega⟩
    · obtain rfl : j = l.length := by omega
      have hMD : M = D := by
        obtain ⟨s, hs, he⟩ := HAT.out
        have := hM.out.2 s (by rw [List.take_length]; exact hs)
        have := hM.out.1
        omega
      subst hMD
      have kRr := kR2.below hkb lR2
      have d0 := kH.cell 0
      have d1 := kH.cell 1
      have d2 := kH.cell 2
      have d3 := kH.cell 3
      simp only [List.getElem?_toArray, List.getElem?_cons_zero, List.getElem?_cons_succ] at d0 d1 d2 d3
      have q0 := kRr.cell 0
      have q1 := kRr.cell 1
      have q2 := kRr.cell 2
      have q3 := kRr.cell 3
      simp only [List.getElem?_toArray, List.getElem?_cons_zero, List.getElem?_cons_succ] at q0 q1 q2 q3
      have f0 := kRr.frozen 0
      have f1 := kRr.frozen 1
      have f2 := kRr.frozen 2
      have f3 := kRr.frozen 3
      have lRr := kRr.lt
      have lHr := kH.lt
      have hbw := b02.trans (hkb.mono hs1)
      clear hM HMX HAT
      go_wp2_with fail
      have kz := (((kRr.put 0 (.int .i64 (M : Int))).put 1 (.int .i64 (l.length : Int))).put 2 (.int .i64 (le.length : Int))).put 3 (.int .i64 (l.length : Int))
      have bz := four4_below hbw (g := w.heap.size) (Nat.le_refl _) (.int .i64 (M : Int)) (.int .i64 (l.length : Int)) (.int .i64 (le.length : Int)) (.int .i64 (l.length : Int))
      unfold four4 at bz
      simp only [List.setIfInBounds_toArray, List.set_cons_zero, List.set_cons_succ] at kz
      generalize (((wr.setCell ⟨w.heap.size, 0, none⟩ (.int .i64 (M : Int))).setCell ⟨w.heap.size, 1, none⟩ (.int .i64 (l.length : Int))).setCell ⟨w.heap.size, 2, none⟩ (.int .i64 (le.length : Int))).setCell ⟨w.heap.size, 3, none⟩ (.int .i64 (l.length : Int)) = wX at *
      have z0 := kz.cell 0
      have z1 := kz.cell 1
      have z2 := kz.cell 2
      have z3 := kz.cell 3
      simp only [List.getElem?_toArray, List.getElem?_cons_zero, List.getElem?_cons_succ] at z0 z1 z2 z3
      refine bodyPost_ret (v := .agg #[.int .i64 (M : Int), .int .i64 (l.length : Int), .int .i64 (le.length : Int), .int .i64 (l.length : Int)]) (by simp [results, Try.results77, go_sem, z0, z1, z2, z3]) rfl ⟨rfl, bz⟩

end Go.Proofs.Ytchghlbiongccaa.trees
