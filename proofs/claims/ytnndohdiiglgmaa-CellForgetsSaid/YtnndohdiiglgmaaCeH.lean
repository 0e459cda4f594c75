/- CellForgets: the walk. -/
import Derived.Test.YtnndohdiiglgmaaCeG


namespace Go.Proofs.Ytnndohdiiglgmaa.cells
set_option linter.unusedVariables false
set_option linter.unusedSimpArgs false
open Go.RowKit Go.Proofs.Ytnndohdiiglgmaa.base Go.Proofs.Ytnndohdiiglgmaa.powers Go.Lib

/-- two cells alike in their slots, each over its own power that is on without end -/
structure Fo (w0 : World) (pa ga pb gb : Nat) (s0 s1 : ByteArray) (Da Db Wa Wb : Int) (w : World) : Prop where
  a : Ce w pa ga ⟨s0, s1, Da⟩
  b : Ce w pb gb ⟨s0, s1, Db⟩
  k : Blk w pa 144 (PC (-1) Wa)
  l : Blk w pb 144 (PC (-1) Wb)
  hb : Below w0.heap.size w0 w
  ne : pa ≠ pb ∧ pa ≠ gb ∧ ga ≠ pb ∧ ga ≠ gb
  lo : w0.heap.size ≤ pa ∧ w0.heap.size ≤ ga ∧ w0.heap.size ≤ pb ∧ w0.heap.size ≤ gb
theorem on_in : In (-1) := by unfold In; omega
theorem lF_on (f : Int) : lF f (-1) = -1 := by unfold lF; split <;> rfl
theorem cell_two (s0 s1 : ByteArray) (Da Db f L : Int) (k : Nat) (b : ByteArray) : ∃ t0 t1 Ea Eb, cellF ⟨s0, s1, Da⟩ f L k b = ⟨t0, t1, Ea⟩ ∧ cellF ⟨s0, s1, Db⟩ f L k b = ⟨t0, t1, Eb⟩ := by
  unfold cellF
  split
  · unfold CS.put
    split
    · exact ⟨_, _, _, _, rfl, rfl⟩
    · exact ⟨_, _, _, _, rfl, rfl⟩
  · exact ⟨_, _, _, _, rfl, rfl⟩
theorem slN_two (s0 s1 : ByteArray) (Da Db : Int) : slN ⟨s0, s1, Da⟩ 2 = slN ⟨s0, s1, Db⟩ 2 := rfl
section
variable {w0 w w' : World} {pa ga pb gb : Nat} {s0 s1 : ByteArray} {Da Db Wa Wb : Int}
theorem Fo.below (h : Fo w0 pa ga pb gb s0 s1 Da Db Wa Wb w) (hb : Below w.heap.size w w') : Fo w0 pa ga pb gb s0 s1 Da Db Wa Wb w' :=
  ⟨h.a.below hb h.a.lt, h.b.below hb h.b.lt, h.k.below hb h.k.lt, h.l.below hb h.l.lt, h.hb.trans (hb.mono h.hb.size), h.ne, h.lo⟩
/-- the same raw write at both -/
theorem Fo.both (h : Fo w0 pa ga pb gb s0 s1 Da Db Wa Wb w) {f : Int} {k : Nat} {b : ByteArray} {e1 e2 : Ending} {w1 w2 : World} (h1 : WPost pa ga ⟨s0, s1, Da⟩ (-1) Wa f k b w e1 w1) (h2 : WPost pb gb ⟨s0, s1, Db⟩ (-1) Wb f k b w1 e2 w2) :
    ∃ t0 t1 Ea Eb Wa' Wb', Fo w0 pa ga pb gb t0 t1 Ea Eb Wa' Wb' w2 := by
  obtain ⟨_, a1, a2, a3⟩ := h1
  obtain ⟨_, b1, b2, b3⟩ := h2
  obtain ⟨t0, t1, Ea, Eb, ea, eb⟩ := cell_two s0 s1 Da Db f (-1) k b
  rw [ea] at a1
  rw [eb] at b1
  rw [lF_on] at a2 b2
  have hl := h.lo
  have hn := h.ne
  refine ⟨t0, t1, Ea, Eb, _, _, a1.keep b3 (fun hk => hk.elim hn.2.2.1 hn.2.2.2), b1, b3.blk a2 (fun hk => hk.elim hn.1 hn.2.1), b2, h.hb.trans ((a3.below (B := w0.heap.size) (fun k hk => by rcases hk with rfl | rfl <;> omega) h.hb.size).trans (b3.below (B := w0.heap.size) (fun k hk => by rcases hk with rfl | rfl <;> omega) (by have := h.hb.size; have := a3.size; omega))), h.ne, h.lo⟩
end
/-- whatever was there: behind the erasures there is none -/
theorem erased (c : CS) : ∃ D, cellF (cellF c (eraF c 0) (-1) 0 ⟨#[]⟩) (eraF (cellF c (eraF c 0) (-1) 0 ⟨#[]⟩) 1) (-1) 1 ⟨#[]⟩ = ⟨⟨#[]⟩, ⟨#[]⟩, D⟩ := by
  obtain ⟨s0, s1, D⟩ := c
  have h0 : ∃ D', cellF ⟨s0, s1, D⟩ (eraF ⟨s0, s1, D⟩ 0) (-1) 0 ⟨#[]⟩ = ⟨⟨#[]⟩, s1, D'⟩ := by
    by_cases h : s0.size = 0
    · have : eraF ⟨s0, s1, D⟩ 0 = 132 := by unfold eraF; rw [if_pos (by omega)]; exact if_pos h
      rw [this, empty_of h]
      exact ⟨D, rfl⟩
    · have : eraF ⟨s0, s1, D⟩ 0 = 0 := by unfold eraF; rw [if_pos (by omega)]; exact if_neg h
      rw [this]
      exact ⟨_, rfl⟩
  obtain ⟨D', e⟩ := h0
  rw [e]
  by_cases h : s1.size = 0
  · have : eraF ⟨⟨#[]⟩, s1, D'⟩ 1 = 132 := by unfold eraF; rw [if_pos (by omega)]; exact if_pos h
    rw [this, empty_of h]
    exact ⟨D', rfl⟩
  · have : eraF ⟨⟨#[]⟩, s1, D'⟩ 1 = 0 := by unfold eraF; rw [if_pos (by omega)]; exact if_neg h
    rw [this]
    exact ⟨_, rfl⟩

set_option maxRecDepth 100000 in
set_option maxHeartbeats 4000000 in
theorem law_forgets (l1 l2 : List CO) (A1 A2 : Option Addr) (cc1 cc2 : Nat) (w : World) (hX1 : Cs w w.heap.size l1 A1 cc1) (hX2 : Cs w w.heap.size l2 A2 cc2) :
    Calls Try.prog 9 #[.slice A1 l1.length cc1, .slice A2 l2.length cc2] w fun e w' => e = .returned (.bool true) ∧ Below w.heap.size w w' := by
  have hl1 := hX1.2.1
  have hl2 := hX2.2.1
  have c1 := awakeC_ok w
  go_enter Try.func9, Try.ntmps9
  go_wp2_with fail
  refine c1.mono ?_
  clear c1
  rintro e w1 ⟨rfl, b1⟩
  have c1 := powers.new_ok w1
  go_wp2_with fail
  refine c1.mono ?_
  clear c1
  rintro e w2 ⟨rfl, k2, b2, z2'⟩
  have z2 := powers.lay z2'
  clear z2'
  have c1 := new_yes w2 w1.heap.size k2.lt
  go_wp2_with fail
  refine c1.mono ?_
  clear c1
  rintro e w3 ⟨rfl, m3, b3, z3'⟩
  have z3 := powers.lay z3'
  clear z3'
  have c1 := powers.new_ok w3
  go_wp2_with fail
  refine c1.mono ?_
  clear c1
  rintro e w4 ⟨rfl, k4, b4, z4'⟩
  have z4 := powers.lay z4'
  clear z4'
  have c1 := new_yes w4 w3.heap.size k4.lt
  go_wp2_with fail
  refine c1.mono ?_
  clear c1
  rintro e w5 ⟨rfl, m5, b5, z5'⟩
  have z5 := powers.lay z5'
  clear z5'
  have c1 := powers.refNew_ok w5
  go_wp2_with fail
  refine c1.mono ?_
  clear c1
  rintro e w6 ⟨rfl, k6, b6, z6'⟩
  have z6 := powers.lay z6'
  clear z6'
  have c1 := refNewC_ok w6 w5.heap.size k6.lt
  go_wp2_with fail
  refine c1.mono ?_
  clear c1
  rintro e w7 ⟨rfl, m7, b7, z7'⟩
  have z7 := powers.lay z7'
  clear z7'
  have z2 := z2.out
  have z3 := z3.out
  have z4 := z4.out
  have z5 := z5.out
  have z6 := z6.out
  have z7 := z7.out
  have s1 := b1.size
  have b67 : Below w5.heap.size w5 w7 := b6.trans (b7.mono b6.size)
  have b57 : Below w4.heap.size w4 w7 := b5.trans (b67.mono b5.size)
  have b47 : Below w3.heap.size w3 w7 := b4.trans (b57.mono b4.size)
  have b37 : Below w2.heap.size w2 w7 := b3.trans (b47.mono b3.size)
  have ka := k2.below b37 k2.lt
  have ma := m3.below b47 m3.lt
  have kb := k4.below b57 k4.lt
  have mb := m5.below b67 m5.lt
  have kq := k6.below b7 k6.lt
  have hw7 : Below w.heap.size w w7 := b1.trans ((b2.trans (b37.mono b2.size)).mono s1)
  obtain ⟨pa, hpa⟩ : ∃ x, w1.heap.size = x := ⟨_, rfl⟩
  obtain ⟨ga, hga⟩ : ∃ x, w2.heap.size = x := ⟨_, rfl⟩
  obtain ⟨pb, hpb⟩ : ∃ x, w3.heap.size = x := ⟨_, rfl⟩
  obtain ⟨gb, hgb⟩ : ∃ x, w4.heap.size = x := ⟨_, rfl⟩
  obtain ⟨qq, hqq⟩ : ∃ x, w5.heap.size = x := ⟨_, rfl⟩
  obtain ⟨dd, hdd⟩ : ∃ x, w6.heap.size = x := ⟨_, rfl⟩
  rw [hpa] at ka ma ⊢
  rw [hga] at ma ⊢
  rw [hpb] at kb mb ⊢
  rw [hgb] at mb ⊢
  rw [hqq] at kq m7 ⊢
  rw [hdd] at m7 ⊢
  have HN := powers.lay (show (w.heap.size ≤ pa ∧ pa < ga ∧ ga < pb ∧ pb < gb ∧ gb < qq ∧ qq < dd) ∧ dd < w7.heap.size by omega)
  clear hpa hga hpb hgb hqq hdd b1 b2 b3 b4 b5 b6 b7 b67 b57 b47 b37 z2 z3 z4 z5 z6 z7 k2 m3 k4 m5 k6 s1
  have HS := powers.lay (⟨ma, ka, m7, kq, on_in, on_in, mb, kb, hw7⟩ : Ce w7 pa ga cNew ∧ Blk w7 pa 144 (PC (-1) 0) ∧ Dc w7 qq dd cNew ∧ Blk w7 qq 146 (DC (bL (-1)) (aL (-1)) 0) ∧ In (-1) ∧ In (-1) ∧ Ce w7 pb gb cNew ∧ Blk w7 pb 144 (PC (-1) 0) ∧ Below w.heap.size w w7)
  clear ma ka m7 kq mb kb hw7
  go_wp2_with fail
  go_loopw [9] (fun i wr => ∃ (j : Nat) (ca cd : CS) (L W M V : Int), i = .int .i64 (j : Int) ∧ j ≤ l1.length ∧ Hid (Ce wr pa ga ca ∧ Blk wr pa 144 (PC L W) ∧ Dc wr qq dd cd ∧ Blk wr qq 146 (DC (bL M) (aL M) V) ∧ In L ∧ In M ∧ Ce wr pb gb cNew ∧ Blk wr pb 144 (PC (-1) 0) ∧ Below w.heap.size w wr)) (fun i _ => l1.length - (RowKit.intOf i).toNat)
  case atStart => exact ⟨0, _, _, _, _, _, _, rfl, Nat.zero_le _, HS⟩
  case round =>
    clear HS
    obtain ⟨j, ca, cd, L, W, M, V, rfl, hj, HS⟩ := hrel
    obtain ⟨ma, ka, md, kq, hI, hJ, mb, kb, hw⟩ := HS.out
    obtain ⟨hn, _⟩ := HN.out
    clear HS
    by_cases hlt : j < l1.length
    · obtain ⟨bk, off, rfl, hbk, x0, x1, x2, x3⟩ := (hX1.below hw).at_ hlt
      have lb : bk < wr.heap.size := Nat.lt_of_lt_of_le hbk hw.size
      have e1 : IntKind.i64.wrap ((j : Int) + 1) = (j : Int) + 1 := IntWalk.i64_in _ (by omega)
      have HX1 := powers.lay hX1
      have HX2 := powers.lay hX2
      clear hX1 hX2
      generalize l1[j] = x at x0 x1 x2 x3
      have cS := step_ok x ma ka md kq hI hJ (by omega)
      obtain ⟨xk, xon, xs, xb⟩ := x
      simp only [] at x0 x1 x2 x3 cS
      clear ma ka md kq
      go_wp2_with fail
      refine cS.mono ?_
      clear cS
      rintro e w8 ⟨bb, c', c2', L', W', M', V', rfl, a1, a2, a3, a4, a5, a6, _, a8⟩
      have mb8 := mb.keep a8 (fun hk => by rcases hk with (hk | hk) | hk | hk <;> omega)
      have kb8 := a8.blk kb (fun hk => by rcases hk with (hk | hk) | hk | hk <;> omega)
      have hw8 := hw.trans (a8.below (B := w.heap.size) (fun k hk => by rcases hk with (hk | hk) | hk | hk <;> omega) hw.size)
      have HS : Hid (Ce w8 pa ga c' ∧ Blk w8 pa 144 (PC L' W') ∧ Dc w8 qq dd c2' ∧ Blk w8 qq 146 (DC (bL M') (aL M') V') ∧ In L' ∧ In M' ∧ Ce w8 pb gb cNew ∧ Blk w8 pb 144 (PC (-1) 0) ∧ Below w.heap.size w w8) := powers.lay ⟨a1, a2, a3, a4, a5, a6, mb8, kb8, hw8⟩
      clear a1 a2 a3 a4 a5 a6 a8 mb8 kb8 hw8 x0 x1 x2 x3 mb kb hw
      go_wp2_with fail
      go_roundw
      case rel => exact ⟨j + 1, _, _, _, _, _, _, by go_num, hlt, HS⟩
      case measure => first | (simp [RowKit.intOf]; done) | (simp [RowKit.intOf]; omega) | omega
    · obtain rfl : j = l1.length := by omega
      clear hlt hj md kq hX1 hl1
      have x0 := ma.ptr
      have hne := ma.ne
      have c1 := restore_ok ka
      go_wp2_with fail
      refine c1.mono ?_
      clear c1
      rintro e w8 ⟨rfl, k8, s8⟩
      have m8 := ma.keep s8 hne
      have mb8 := mb.keep s8 (fun hk => by unfold powers.one at hk; omega)
      have kb8 := s8.blk kb (fun hk => by unfold powers.one at hk; omega)
      have hw8 := hw.trans (s8.below (B := w.heap.size) (fun k hk => by unfold powers.one at hk; omega) hw.size)
      clear ma ka mb kb hw s8 x0
      have c1 := erase_any m8 k8 on_in 0
      go_wp2_with fail
      refine c1.mono ?_
      clear c1
      rintro e w9 ⟨rfl, m9, k9, s9⟩
      rw [lF_on] at k9
      have mb9 := mb8.keep s9 (fun hk => by rcases hk with hk | hk <;> omega)
      have kb9 := s9.blk kb8 (fun hk => by rcases hk with hk | hk <;> omega)
      have hw9 := hw8.trans (s9.below (B := w.heap.size) (fun k hk => by rcases hk with hk | hk <;> omega) hw8.size)
      clear m8 k8 mb8 kb8 hw8 s9
      have c1 := erase_any m9 k9 on_in 1
      go_wp2_with fail
      refine c1.mono ?_
      clear c1
      rintro e wA ⟨rfl, mA, kA, sA⟩
      rw [lF_on] at kA
      obtain ⟨Da, hDa⟩ := erased ca
      change Ce wA pa ga (cellF (cellF ca (eraF ca 0) (-1) 0 ⟨#[]⟩) (eraF (cellF ca (eraF ca 0) (-1) 0 ⟨#[]⟩) 1) (-1) 1 ⟨#[]⟩) at mA
      rw [hDa] at mA
      have mbA := mb9.keep sA (fun hk => by rcases hk with hk | hk <;> omega)
      have kbA := sA.blk kb9 (fun hk => by rcases hk with hk | hk <;> omega)
      have hwA := hw9.trans (sA.below (B := w.heap.size) (fun k hk => by rcases hk with hk | hk <;> omega) hw9.size)
      have TA : Fo w pa ga pb gb ⟨#[]⟩ ⟨#[]⟩ Da 0 _ 0 wA := ⟨mA, mbA, kA, kbA, hwA, by omega, by omega⟩
      clear m9 k9 mb9 kb9 hw9 sA mA kA mbA kbA hwA hDa
      have c1 := slots_ok TA.a
      rw [show slN ⟨⟨#[]⟩, ⟨#[]⟩, Da⟩ 2 = [] from rfl] at c1
      go_wp2_with fail
      refine c1.mono ?_
      clear c1
      rintro e wB ⟨vB, rfl, oB, bB⟩
      obtain ⟨AB, cB, rfl, _, _⟩ := own_slice oB
      have TB := powers.lay (TA.below bB)
      clear oB bB TA
      go_wp2_with fail
      go_loopw [10] (fun i wr => ∃ (j : Nat) (s0 s1 : ByteArray) (Da Db Wa Wb : Int), i = .int .i64 (j : Int) ∧ j ≤ l2.length ∧ Hid (Fo w pa ga pb gb s0 s1 Da Db Wa Wb wr)) (fun i _ => l2.length - (RowKit.intOf i).toNat)
      case atStart => exact ⟨0, _, _, _, _, _, _, rfl, Nat.zero_le _, TB⟩
      case round =>
        clear TB
        obtain ⟨j, s0, s1, Da, Db, Wa, Wb, rfl, hj, HT⟩ := hrel
        by_cases hlt : j < l2.length
        · obtain ⟨bk, off, rfl, hbk, x0, x1, x2, x3⟩ := (hX2.below HT.out.hb).at_ hlt
          have lb : bk < wr.heap.size := Nat.lt_of_lt_of_le hbk HT.out.hb.size
          have e1 : IntKind.i64.wrap ((j : Int) + 1) = (j : Int) + 1 := IntWalk.i64_in _ (by omega)
          have HX2 := powers.lay hX2
          clear hX2
          generalize l2[j] = x at x0 x1 x2 x3
          obtain ⟨xk, xon, xs, xb⟩ := x
          simp only [] at x0 x1 x2 x3
          have bZ : Below wr.heap.size wr (wr.alloc (.cells #[.int .i64 xk, .bool xon, .int .i64 xs, .string xb] 80)) := (Below.refl _ _).alloc (Nat.le_refl _) _
          have kZ := Blk.new wr 80 #[.int .i64 xk, .bool xon, .int .i64 xs, .string xb]
          have lZ2 : wr.heap.size < (wr.alloc (.cells #[.int .i64 xk, .bool xon, .int .i64 xs, .string xb] 80)).heap.size := by simp
          have TZ := HT.out.below bZ
          have nz := powers.lay (show pa < wr.heap.size ∧ ga < wr.heap.size ∧ pb < wr.heap.size ∧ gb < wr.heap.size from ⟨HT.out.k.lt, HT.out.a.lt, HT.out.l.lt, HT.out.b.lt⟩)
          generalize hWZ2 : wr.alloc (.cells #[.int .i64 xk, .bool xon, .int .i64 xs, .string xb] 80) = WY at *
          have y0 := kZ.cell 0
          have y2 := kZ.cell 2
          have y3 := kZ.cell 3
          simp only [List.getElem?_toArray, List.getElem?_cons_zero, List.getElem?_cons_succ] at y0 y2 y3
          clear bZ
          by_cases h1 : xk = 1
          · subst h1
            have cA := set_any TZ.a TZ.k on_in xs xb
            go_wp2_with fail
            refine cA.mono ?_
            clear cA
            rintro e w1 hA
            have kZ1 := hA.2.2.2.blk kZ (fun hk => by have := nz.out; rcases hk with hk | hk <;> omega)
            have hb1 := TZ.b.keep hA.2.2.2 (fun hk => hk.elim (fun e => TZ.ne.2.1 e.symm) (fun e => TZ.ne.2.2.2 e.symm))
            have hl1 := hA.2.2.2.blk TZ.l (fun hk => hk.elim (fun e => TZ.ne.1 e.symm) (fun e => TZ.ne.2.2.1 e.symm))
            obtain ⟨rfl, hA'⟩ := id hA
            clear hA' kZ y0 y2 y3
            have y0 := kZ1.cell 0
            have y2 := kZ1.cell 2
            have y3 := kZ1.cell 3
            simp only [List.getElem?_toArray, List.getElem?_cons_zero, List.getElem?_cons_succ] at y0 y2 y3
            have cB := set_any hb1 hl1 on_in xs xb
            rw [show setF ⟨s0, s1, Db⟩ xs xb = setF ⟨s0, s1, Da⟩ xs xb from rfl] at cB
            go_wp2_with fail
            refine cB.mono ?_
            clear cB
            rintro e w2 hB
            obtain ⟨t0, t1, Ea, Eb, Wa', Wb', T2⟩ := TZ.both hA hB
            obtain ⟨rfl, hB'⟩ := hB
            clear hB' hA TZ kZ1 hb1 hl1 y0 y2 y3
            generalize ansF (setF ⟨s0, s1, Da⟩ xs xb) (-1) = av
            have T2 := powers.lay T2
            go_wp2_with fail
            go_loopw [16] (fun i wr => ∃ (k : Nat), i = .int .i64 (k : Int) ∧ k ≤ 2 ∧ Hid (Fo w pa ga pb gb t0 t1 Ea Eb Wa' Wb' wr)) (fun i _ => 2 - (RowKit.intOf i).toNat)
            case atStart => exact ⟨0, rfl, by omega, T2⟩
            case round =>
              clear T2
              obtain ⟨k, rfl, hk, HT⟩ := hrel
              by_cases hk2 : k < 2
              · have ek : IntKind.i64.wrap ((k : Int) + 1) = (k : Int) + 1 := IntWalk.i64_in _ (by omega)
                have T := HT.out
                have c1 := get_any T.a (k : Int)
                go_wp2_with fail
                refine c1.mono ?_
                clear c1
                rintro e w3 ⟨rfl, s3⟩
                have T3 := T.below ⟨s3.os, s3.tape, s3.output, s3.size, fun i hi => s3.block i hi (fun h => h)⟩
                have c1 := get_any T3.b (k : Int)
                rw [show getV ⟨t0, t1, Eb⟩ (k : Int) = getV ⟨t0, t1, Ea⟩ (k : Int) from rfl, show getB ⟨t0, t1, Eb⟩ (k : Int) = getB ⟨t0, t1, Ea⟩ (k : Int) from rfl] at c1
                generalize getV ⟨t0, t1, Ea⟩ (k : Int) = gv at *
                generalize getB ⟨t0, t1, Ea⟩ (k : Int) = gb' at *
                go_wp2_with fail
                refine c1.mono ?_
                clear c1
                rintro e w4 ⟨rfl, s4⟩
                have T4 := powers.lay (T3.below ⟨s4.os, s4.tape, s4.output, s4.size, fun i hi => s4.block i hi (fun h => h)⟩)
                clear T T3 HT s3 s4
                go_wp2_with fail
                go_roundw
                case rel => exact ⟨k + 1, by go_num, by omega, T4⟩
                case measure => first | (simp [RowKit.intOf]; done) | (simp [RowKit.intOf]; omega) | omega
              · obtain rfl : k = 2 := by omega
                clear hk2
                go_wp2_with fail
                go_roundw
                case rel => exact ⟨j + 1, _, _, _, _, _, _, by go_num, hlt, HT⟩
                case measure => first | (simp [RowKit.intOf]; done) | (simp [RowKit.intOf]; omega) | omega
          · by_cases h2 : xk = 2
            · subst h2
              have cA := erase_any TZ.a TZ.k on_in xs
              go_wp2_with fail
              refine cA.mono ?_
              clear cA
              rintro e w1 hA
              have kZ1 := hA.2.2.2.blk kZ (fun hk => by have := nz.out; rcases hk with hk | hk <;> omega)
              have hb1 := TZ.b.keep hA.2.2.2 (fun hk => hk.elim (fun e => TZ.ne.2.1 e.symm) (fun e => TZ.ne.2.2.2 e.symm))
              have hl1 := hA.2.2.2.blk TZ.l (fun hk => hk.elim (fun e => TZ.ne.1 e.symm) (fun e => TZ.ne.2.2.1 e.symm))
              obtain ⟨rfl, hA'⟩ := id hA
              clear hA' kZ y0 y2 y3
              have y0 := kZ1.cell 0
              have y2 := kZ1.cell 2
              have y3 := kZ1.cell 3
              simp only [List.getElem?_toArray, List.getElem?_cons_zero, List.getElem?_cons_succ] at y0 y2 y3
              have cB := erase_any hb1 hl1 on_in xs
              rw [show eraF ⟨s0, s1, Db⟩ xs = eraF ⟨s0, s1, Da⟩ xs from rfl] at cB
              go_wp2_with fail
              refine cB.mono ?_
              clear cB
              rintro e w2 hB
              obtain ⟨t0, t1, Ea, Eb, Wa', Wb', T2⟩ := TZ.both hA hB
              obtain ⟨rfl, hB'⟩ := hB
              clear hB' hA TZ kZ1 hb1 hl1 y0 y2 y3
              generalize ansF (eraF ⟨s0, s1, Da⟩ xs) (-1) = av
              have T2 := powers.lay T2
              go_wp2_with fail
              go_loopw [16] (fun i wr => ∃ (k : Nat), i = .int .i64 (k : Int) ∧ k ≤ 2 ∧ Hid (Fo w pa ga pb gb t0 t1 Ea Eb Wa' Wb' wr)) (fun i _ => 2 - (RowKit.intOf i).toNat)
              case atStart => exact ⟨0, rfl, by omega, T2⟩
              case round =>
                clear T2
                obtain ⟨k, rfl, hk, HT⟩ := hrel
                by_cases hk2 : k < 2
                · have ek : IntKind.i64.wrap ((k : Int) + 1) = (k : Int) + 1 := IntWalk.i64_in _ (by omega)
                  have T := HT.out
                  have c1 := get_any T.a (k : Int)
                  go_wp2_with fail
                  refine c1.mono ?_
                  clear c1
                  rintro e w3 ⟨rfl, s3⟩
                  have T3 := T.below ⟨s3.os, s3.tape, s3.output, s3.size, fun i hi => s3.block i hi (fun h => h)⟩
                  have c1 := get_any T3.b (k : Int)
                  rw [show getV ⟨t0, t1, Eb⟩ (k : Int) = getV ⟨t0, t1, Ea⟩ (k : Int) from rfl, show getB ⟨t0, t1, Eb⟩ (k : Int) = getB ⟨t0, t1, Ea⟩ (k : Int) from rfl] at c1
                  generalize getV ⟨t0, t1, Ea⟩ (k : Int) = gv at *
                  generalize getB ⟨t0, t1, Ea⟩ (k : Int) = gb' at *
                  go_wp2_with fail
                  refine c1.mono ?_
                  clear c1
                  rintro e w4 ⟨rfl, s4⟩
                  have T4 := powers.lay (T3.below ⟨s4.os, s4.tape, s4.output, s4.size, fun i hi => s4.block i hi (fun h => h)⟩)
                  clear T T3 HT s3 s4
                  go_wp2_with fail
                  go_roundw
                  case rel => exact ⟨k + 1, by go_num, by omega, T4⟩
                  case measure => first | (simp [RowKit.intOf]; done) | (simp [RowKit.intOf]; omega) | omega
                · obtain rfl : k = 2 := by omega
                  clear hk2
                  go_wp2_with fail
                  go_roundw
                  case rel => exact ⟨j + 1, _, _, _, _, _, _, by go_num, hlt, HT⟩
                  case measure => first | (simp [RowKit.intOf]; done) | (simp [RowKit.intOf]; omega) | omega
            · have d1 : decide (xk = 1) = false := decide_eq_false h1
              have d2 : decide (xk = 2) = false := decide_eq_false h2
              have n1 : (xk == 1) = false := beq_eq_false_iff_ne.2 h1
              have n2 : (xk == 2) = false := beq_eq_false_iff_ne.2 h2
              clear h1 h2
              have T2 := TZ
              clear TZ kZ y2 y3
              have T2 := powers.lay T2
              go_wp2_with fail
              go_loopw [16] (fun i wr => ∃ (k : Nat), i = .int .i64 (k : Int) ∧ k ≤ 2 ∧ Hid (Fo w pa ga pb gb s0 s1 Da Db Wa Wb wr)) (fun i _ => 2 - (RowKit.intOf i).toNat)
              case atStart => exact ⟨0, rfl, by omega, T2⟩
              case round =>
                clear T2
                obtain ⟨k, rfl, hk, HT⟩ := hrel
                by_cases hk2 : k < 2
                · have ek : IntKind.i64.wrap ((k : Int) + 1) = (k : Int) + 1 := IntWalk.i64_in _ (by omega)
                  have T := HT.out
                  have c1 := get_any T.a (k : Int)
                  go_wp2_with fail
                  refine c1.mono ?_
                  clear c1
                  rintro e w3 ⟨rfl, s3⟩
                  have T3 := T.below ⟨s3.os, s3.tape, s3.output, s3.size, fun i hi => s3.block i hi (fun h => h)⟩
                  have c1 := get_any T3.b (k : Int)
                  rw [show getV ⟨s0, s1, Db⟩ (k : Int) = getV ⟨s0, s1, Da⟩ (k : Int) from rfl, show getB ⟨s0, s1, Db⟩ (k : Int) = getB ⟨s0, s1, Da⟩ (k : Int) from rfl] at c1
                  generalize getV ⟨s0, s1, Da⟩ (k : Int) = gv at *
                  generalize getB ⟨s0, s1, Da⟩ (k : Int) = gb' at *
                  go_wp2_with fail
                  refine c1.mono ?_
                  clear c1
                  rintro e w4 ⟨rfl, s4⟩
                  have T4 := powers.lay (T3.below ⟨s4.os, s4.tape, s4.output, s4.size, fun i hi => s4.block i hi (fun h => h)⟩)
                  clear T T3 HT s3 s4
                  go_wp2_with fail
                  go_roundw
                  case rel => exact ⟨k + 1, by go_num, by omega, T4⟩
                  case measure => first | (simp [RowKit.intOf]; done) | (simp [RowKit.intOf]; omega) | omega
                · obtain rfl : k = 2 := by omega
                  clear hk2
                  go_wp2_with fail
                  go_roundw
                  case rel => exact ⟨j + 1, _, _, _, _, _, _, by go_num, hlt, HT⟩
                  case measure => first | (simp [RowKit.intOf]; done) | (simp [RowKit.intOf]; omega) | omega
        · obtain rfl : j = l2.length := by omega
          have T := HT.out
          clear HT hlt hX2
          have c1 := slots_ok T.a
          go_wp2_with fail
          refine c1.mono ?_
          clear c1
          rintro e w8 ⟨v8, rfl, o8, b8⟩
          obtain ⟨A8, c8, rfl, r8, _⟩ := own_slice o8
          have T8 := T.below b8
          have c1 := slots_ok T8.b
          rw [slN_two s0 s1 Db Da] at c1
          go_wp2_with fail
          refine c1.mono ?_
          clear c1
          rintro e w9 ⟨v9, rfl, o9, b9⟩
          obtain ⟨A9, c9, rfl, r9, _⟩ := own_slice o9
          have hfin := (T8.below b9).hb
          have c1 := sameInts_ok (slN ⟨s0, s1, Da⟩ 2) A8 A9 c8 c9 w9.heap.size w9 ((r8.below b9).more b9.size) r9 (Nat.le_refl _) (by have := slN_len ⟨s0, s1, Da⟩ 2; omega)
          clear o8 o9 b8 b9 T T8 r8 r9
          go_wp2_with fail
          refine c1.mono ?_
          clear c1
          rintro e wX ⟨rfl, sX⟩
          go_wp2_with fail
          go_ret
          exact ⟨rfl, hfin.trans (sX.below (fun k h => h.elim) hfin.size)⟩

end Go.Proofs.Ytnndohdiiglgmaa.cells
