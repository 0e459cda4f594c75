/- awake of cell's laws, and CellPlays. -/
import Derived.Test.YtnndohdiiglgmaaCeF


namespace Go.Proofs.Ytnndohdiiglgmaa.cells
set_option linter.unusedVariables false
set_option linter.unusedSimpArgs false
open Go.RowKit Go.Proofs.Ytnndohdiiglgmaa.base Go.Proofs.Ytnndohdiiglgmaa.powers Go.Lib

abbrev cNew : CS := ⟨⟨#[]⟩, ⟨#[]⟩, 0⟩
abbrev sA : ByteArray := ⟨#[97]⟩
abbrev sB : ByteArray := ⟨#[98]⟩
def cA1 : CS := cNew.put 0 sA
def cA2 : CS := cA1.put 1 sB
def cA3 : CS := cA2.put 0 ⟨#[]⟩
theorem aw1 : setF cNew 0 sA = 0 := by decide +kernel
theorem aw2 : setF cA1 1 sB = 0 := by decide +kernel
theorem aw3 : eraF cA2 0 = 0 := by decide +kernel
theorem aw4 : getV cA3 1 = sB ∧ getB cA3 1 = true ∧ getB cA3 0 = false := by decide +kernel
theorem aw5 : slN cA3 2 = [1] := by decide +kernel
theorem aw6 : cA3.D = 3 := by decide +kernel
theorem cellF_on (c : CS) (k : Nat) (b : ByteArray) : cellF c 0 (-1) k b = c.put k b := if_pos ⟨rfl, by decide⟩
theorem wF_on (W : Int) : wF 0 (-1) W = nx W := rfl

set_option maxRecDepth 100000 in
set_option maxHeartbeats 4000000 in
theorem awakeC_ok (w : World) : Calls Try.prog 26 #[] w fun e w' => e = .returned (.bool true) ∧ Below w.heap.size w w' := by
  have c1 := powers.new_ok w
  have iI : In (-1) := by unfold In; omega
  go_enter Try.func26, Try.ntmps26
  go_wp2_with fail
  refine c1.mono ?_
  clear c1
  rintro e w1 ⟨rfl, k1, b1, z1⟩
  have c2 := new_yes w1 w.heap.size k1.lt
  go_wp2_with fail
  refine c2.mono ?_
  clear c2
  rintro e w2 ⟨rfl, m2, b2, z2⟩
  have k2 := k1.below b2 k1.lt
  have hb2 := b1.trans (b2.mono b1.size)
  obtain ⟨g, hg⟩ : ∃ g, w1.heap.size = g := ⟨_, rfl⟩
  obtain ⟨pp, hpp⟩ : ∃ pp, w.heap.size = pp := ⟨_, rfl⟩
  have lo1 : pp ≤ g := by omega
  rw [hg] at m2 b2 z2 ⊢
  rw [hpp] at k1 k2 m2 hb2 b1 z1 ⊢
  have HP := powers.lay hpp
  clear hg hpp z1 z2 b1 k1 b2
  have c3 := set_any m2 k2 iI 0 sA
  rw [aw1] at c3
  go_wp2_with fail
  refine c3.mono ?_
  clear c3
  rintro e w3 ⟨rfl, m3, k3, s3⟩
  rw [cellF_on] at m3
  change Ce _ _ _ cA1 at m3
  rw [show lF 0 (-1) = -1 by decide, show wF 0 (-1) 0 = 1 by decide +kernel] at k3
  rw [show ansF 0 (-1) = 0 by decide]
  have c4 := set_any m3 k3 iI 1 sB
  rw [aw2] at c4
  go_wp2_with fail
  refine c4.mono ?_
  clear c4
  rintro e w4 ⟨rfl, m4, k4, s4⟩
  rw [cellF_on] at m4
  change Ce _ _ _ cA2 at m4
  rw [show lF 0 (-1) = -1 by decide, show wF 0 (-1) 1 = 2 by decide +kernel] at k4
  rw [show ansF 0 (-1) = 0 by decide]
  have c5 := erase_any m4 k4 iI 0
  rw [aw3] at c5
  go_wp2_with fail
  refine c5.mono ?_
  clear c5
  rintro e w5 ⟨rfl, m5, k5, s5⟩
  rw [cellF_on] at m5
  change Ce _ _ _ cA3 at m5
  rw [show lF 0 (-1) = -1 by decide, show wF 0 (-1) 2 = 3 by decide +kernel] at k5
  rw [show ansF 0 (-1) = 0 by decide]
  have hs5 : Below pp w w5 := hb2.trans ((((s3.trans s4).trans s5).below (B := pp) (fun k hk => by rcases hk with h | h <;> omega)) (by have := m2.lt; omega))
  clear s3 s4 s5 m2 m3 m4 k2 k3 k4 hb2
  have c6 := get_any m5 1
  rw [aw4.1, aw4.2.1] at c6
  go_wp2_with fail
  refine c6.mono ?_
  clear c6
  rintro e w6 ⟨rfl, s6⟩
  have m6 := m5.keep s6 (fun h => h)
  have k6 := s6.blk k5 (fun h => h)
  have c7 := get_any m6 0
  rw [aw4.2.2] at c7
  generalize getV cA3 0 = vx at c7
  clear m5 k5
  go_wp2_with fail
  refine c7.mono ?_
  clear c7
  rintro e w7 ⟨rfl, s7⟩
  have m7 := m6.keep s7 (fun h => h)
  have k7 := s7.blk k6 (fun h => h)
  have hs7 : Below pp w w7 := hs5.trans ((s6.trans s7).below (fun k h => h.elim) (by have := hs5.size; have := HP.out; omega))
  clear m6 k6 hs5 s6 s7
  have c8 := slots_ok m7
  go_wp2_with fail
  refine c8.mono ?_
  clear c8
  rintro e w8 ⟨v8, rfl, o8, b8⟩
  have m8 := m7.below b8 m7.lt
  have k8 := k7.below b8 k7.lt
  have hs8 : Below pp w w8 := hs7.trans (b8.mono (by have := hs7.size; have := HP.out; omega))
  rw [aw5] at o8
  obtain ⟨A8, cc8, rfl, rd8, _⟩ := own_slice o8
  obtain ⟨bb, off, rfl, hbb, y8⟩ := rd8.at_ (k := 0) (by simp)
  simp only [List.map_cons, List.map_nil, List.getElem_cons_zero, Nat.add_zero] at y8
  have c9 := count_ok m8
  rw [aw6] at c9
  have cA := writes_ok k8 iI
  have x0 := m8.ptr
  clear o8 rd8 b8 m7 k7 hs7
  go_wp2_with (first | (go_at_call 45; refine c9.mono ?_; rintro e wa ⟨rfl, rfl⟩) | (go_at_call 42; refine cA.mono ?_; rintro e wa ⟨rfl, rfl⟩))
  go_ret
  exact ⟨rfl, by rw [HP.out]; exact hs8⟩
/-- two cells over one power, and the document's -/
structure Pl (w0 : World) (pp ga gb q dc dd : Nat) (ca cb : CS) (L W : Int) (w : World) : Prop where
  a : Ce w pp ga ca
  b : Ce w pp gb cb
  k : Blk w pp 144 (PC L W)
  c : Dc w q dc ca
  d : Dc w q dd cb
  r : Blk w q 146 (DC (bL L) (aL L) W)
  i : In L
  hb : Below w0.heap.size w0 w
  ab : ga ≠ gb
  cd : dc ≠ dd
  far : (ga ≠ q ∧ ga ≠ dc ∧ ga ≠ dd) ∧ (gb ≠ q ∧ gb ≠ dc ∧ gb ≠ dd) ∧ (pp ≠ q ∧ pp ≠ dc ∧ pp ≠ dd)
  lo : w0.heap.size ≤ pp ∧ w0.heap.size ≤ ga ∧ w0.heap.size ≤ gb ∧ w0.heap.size ≤ q ∧ w0.heap.size ≤ dc ∧ w0.heap.size ≤ dd
section
variable {w0 w w' : World} {pp ga gb q dc dd : Nat} {ca cb : CS} {L W : Int}
theorem Pl.below (h : Pl w0 pp ga gb q dc dd ca cb L W w) (hb : Below w.heap.size w w') : Pl w0 pp ga gb q dc dd ca cb L W w' :=
  ⟨h.a.below hb h.a.lt, h.b.below hb h.b.lt, h.k.below hb h.k.lt, h.c.below hb h.c.lt, h.d.below hb h.d.lt, h.r.below hb h.r.lt, h.i, h.hb.trans (hb.mono h.hb.size), h.ab, h.cd, h.far, h.lo⟩
theorem Pl.step_a (h : Pl w0 pp ga gb q dc dd ca cb L W w) {e : Ending} (hs : StepC pp ga q dc ca ca L W L W w e w') : ∃ ca' L' W', e = .returned (.bool true) ∧ Pl w0 pp ga gb q dc dd ca' cb L' W' w' := by
  obtain ⟨bb, c1, c2, L1, W1, M1, V1, rfl, a1, a2, a3, a4, a5, a6, a7, a8⟩ := hs
  obtain ⟨rfl, rfl, rfl, rfl⟩ := a7 rfl rfl rfl
  obtain ⟨⟨f1, f2, f3⟩, ⟨f4, f5, f6⟩, f7, f8, f9⟩ := h.far
  have hl := h.lo
  refine ⟨_, _, _, rfl, a1, h.b.keep a8 (fun hk => ?_), a2, a3, h.d.keep a8 (fun hk => ?_), a4, a5, h.hb.trans (a8.below (fun k hk => ?_) h.hb.size), h.ab, h.cd, h.far, h.lo⟩
  · rcases hk with (hk | hk) | hk | hk
    · exact h.b.ne hk
    · exact h.ab hk.symm
    · exact f4 hk
    · exact f5 hk
  · rcases hk with (hk | hk) | hk | hk
    · exact f9 hk.symm
    · exact f3 hk.symm
    · exact h.d.2 hk
    · exact h.cd hk.symm
  · rcases hk with (hk | hk) | hk | hk <;> omega
theorem Pl.step_b (h : Pl w0 pp ga gb q dc dd ca cb L W w) {e : Ending} (hs : StepC pp gb q dd cb cb L W L W w e w') : ∃ cb' L' W', e = .returned (.bool true) ∧ Pl w0 pp ga gb q dc dd ca cb' L' W' w' := by
  obtain ⟨bb, c1, c2, L1, W1, M1, V1, rfl, a1, a2, a3, a4, a5, a6, a7, a8⟩ := hs
  obtain ⟨rfl, rfl, rfl, rfl⟩ := a7 rfl rfl rfl
  obtain ⟨⟨f1, f2, f3⟩, ⟨f4, f5, f6⟩, f7, f8, f9⟩ := h.far
  have hl := h.lo
  refine ⟨_, _, _, rfl, h.a.keep a8 (fun hk => ?_), a1, a2, h.c.keep a8 (fun hk => ?_), a3, a4, a5, h.hb.trans (a8.below (fun k hk => ?_) h.hb.size), h.ab, h.cd, h.far, h.lo⟩
  · rcases hk with (hk | hk) | hk | hk
    · exact h.a.ne hk
    · exact h.ab hk
    · exact f1 hk
    · exact f3 hk
  · rcases hk with (hk | hk) | hk | hk
    · exact f8 hk.symm
    · exact f5 hk.symm
    · exact h.c.2 hk
    · exact h.cd hk
  · rcases hk with (hk | hk) | hk | hk <;> omega
end

set_option maxRecDepth 100000 in
set_option maxHeartbeats 4000000 in
theorem law_plays (l : List CO) (A : Option Addr) (cc : Nat) (w : World) (hX : Cs w w.heap.size l A cc) :
    Calls Try.prog 8 #[.slice A l.length cc] w fun e w' => e = .returned (.bool true) ∧ Below w.heap.size w w' := by
  have hl := hX.2.1
  have hA := awakeC_ok w
  have iI : In (-1) := by unfold In; omega
  go_enter Try.func8, Try.ntmps8
  go_wp2_with fail
  refine hA.mono ?_
  clear hA
  rintro e w1 ⟨rfl, b1⟩
  have c1 := powers.new_ok w1
  go_wp2_with fail
  refine c1.mono ?_
  clear c1
  rintro e w2 ⟨rfl, k2, b2, z2'⟩
  have z2 := powers.lay z2'
  clear z2'
  have c1 := new_yes w2 w1.heap.size k2.lt
  go_wp2_with fail
  refine c1.mono ?_
  clear c1
  rintro e w3 ⟨rfl, m3, b3, z3'⟩
  have z3 := powers.lay z3'
  clear z3'
  have k3 := k2.below b3 k2.lt
  have c1 := new_yes w3 w1.heap.size k3.lt
  go_wp2_with fail
  refine c1.mono ?_
  clear c1
  rintro e w4 ⟨rfl, n4, b4, z4'⟩
  have z4 := powers.lay z4'
  clear z4'
  have m4 := m3.below b4 m3.lt
  have k4 := k3.below b4 k3.lt
  have c1 := new_no w4
  go_wp2_with fail
  refine c1.mono ?_
  clear c1
  rintro e wx ⟨rfl, rfl⟩
  have c1 := powers.refNew_ok wx
  go_wp2_with fail
  refine c1.mono ?_
  clear c1
  rintro e w5 ⟨rfl, q5, b5, z5'⟩
  have z5 := powers.lay z5'
  clear z5'
  have c1 := refNewC_ok w5 wx.heap.size q5.lt
  go_wp2_with fail
  refine c1.mono ?_
  clear c1
  rintro e w6 ⟨rfl, d6, b6, z6'⟩
  have z6 := powers.lay z6'
  clear z6'
  have q6 := q5.below b6 q5.lt
  have c1 := refNewC_ok w6 wx.heap.size q6.lt
  go_wp2_with fail
  refine c1.mono ?_
  clear c1
  rintro e w7 ⟨rfl, e7, b7, z7'⟩
  have z7 := powers.lay z7'
  clear z7'
  have z2 := z2.out
  have z3 := z3.out
  have z4 := z4.out
  have z5 := z5.out
  have z6 := z6.out
  have z7 := z7.out
  have s1 := b1.size
  have b57 : Below wx.heap.size wx w7 := b5.trans ((b6.trans (b7.mono b6.size)).mono b5.size)
  have T7 : Pl w w1.heap.size w2.heap.size w3.heap.size wx.heap.size w5.heap.size w6.heap.size cNew cNew (-1) 0 w7 :=
    ⟨m4.below b57 m4.lt, n4.below b57 n4.lt, k4.below b57 k4.lt, d6.below b7 d6.lt, e7, q6.below b7 q6.lt, iI, b1.trans ((b2.trans ((b3.trans ((b4.trans (b57.mono b4.size)).mono b3.size)).mono b2.size)).mono s1), by omega, by omega, ⟨⟨by omega, by omega, by omega⟩, ⟨by omega, by omega, by omega⟩, by omega, by omega, by omega⟩, by omega⟩
  have T7 := powers.lay T7
  generalize w1.heap.size = pp at *
  generalize w2.heap.size = ga at *
  generalize w3.heap.size = gb at *
  generalize wx.heap.size = qq at *
  generalize w5.heap.size = dc at *
  generalize w6.heap.size = dd at *
  clear b1 b2 b3 b4 b5 b6 b7 b57 z2 z3 z4 z5 z6 z7 k2 k3 k4 m3 m4 n4 q5 q6 d6 e7 s1 iI
  go_wp2_with fail
  go_loopw [11] (fun i wr => ∃ (j : Nat) (ca cb : CS) (L W : Int), i = .int .i64 (j : Int) ∧ j ≤ l.length ∧ Hid (Pl w pp ga gb qq dc dd ca cb L W wr)) (fun i _ => l.length - (RowKit.intOf i).toNat)
  case atStart => exact ⟨0, _, _, _, _, rfl, Nat.zero_le _, T7⟩
  case round =>
    clear T7
    obtain ⟨j, ca, cb, L, W, rfl, hj, HT⟩ := hrel
    by_cases hlt : j < l.length
    · obtain ⟨bk, off, rfl, hbk, x0, x1, x2, x3⟩ := (hX.below HT.out.hb).at_ hlt
      have lb : bk < wr.heap.size := Nat.lt_of_lt_of_le hbk HT.out.hb.size
      have e1 : IntKind.i64.wrap ((j : Int) + 1) = (j : Int) + 1 := IntWalk.i64_in _ (by omega)
      have HX := powers.lay hX
      clear hX
      generalize l[j] = x at x0 x1 x2 x3
      obtain ⟨xk, xon, xs, xb⟩ := x
      simp only [] at x0 x1 x2 x3
      cases xon
      · skip
        have cS := step_ok ⟨xk, false, xs, xb⟩ HT.out.a HT.out.k HT.out.c HT.out.r HT.out.i HT.out.i ⟨HT.out.far.1.1, HT.out.far.1.2.1, HT.out.far.2.2.1, HT.out.far.2.2.2.1⟩
        go_wp2_with fail
        refine cS.mono ?_
        clear cS
        rintro e w1 hS
        obtain ⟨c', L', W', rfl, T1⟩ := HT.out.step_a hS
        clear hS HT x0 x1 x2 x3
        have cT := tells_ok T1.a T1.k T1.c T1.r T1.i
        go_wp2_with fail
        refine cT.mono ?_
        clear cT
        rintro e w2 ⟨rfl, b2⟩
        have T2 := T1.below b2
        clear T1 b2
        have cT := tells_ok T2.b T2.k T2.d T2.r T2.i
        go_wp2_with fail
        refine cT.mono ?_
        clear cT
        rintro e w3 ⟨rfl, b3⟩
        have T3 := powers.lay (T2.below b3)
        clear T2 b3
        go_wp2_with fail
        go_roundw
        case rel => exact ⟨j + 1, _, _, _, _, by go_num, hlt, T3⟩
        case measure => first | (simp [RowKit.intOf]; done) | (simp [RowKit.intOf]; omega) | omega
      · skip
        have cS := step_ok ⟨xk, true, xs, xb⟩ HT.out.b HT.out.k HT.out.d HT.out.r HT.out.i HT.out.i ⟨HT.out.far.2.1.1, HT.out.far.2.1.2.2, HT.out.far.2.2.1, HT.out.far.2.2.2.2⟩
        go_wp2_with fail
        refine cS.mono ?_
        clear cS
        rintro e w1 hS
        obtain ⟨c', L', W', rfl, T1⟩ := HT.out.step_b hS
        clear hS HT x0 x1 x2 x3
        have cT := tells_ok T1.a T1.k T1.c T1.r T1.i
        go_wp2_with fail
        refine cT.mono ?_
        clear cT
        rintro e w2 ⟨rfl, b2⟩
        have T2 := T1.below b2
        clear T1 b2
        have cT := tells_ok T2.b T2.k T2.d T2.r T2.i
        go_wp2_with fail
        refine cT.mono ?_
        clear cT
        rintro e w3 ⟨rfl, b3⟩
        have T3 := powers.lay (T2.below b3)
        clear T2 b3
        go_wp2_with fail
        go_roundw
        case rel => exact ⟨j + 1, _, _, _, _, by go_num, hlt, T3⟩
        case measure => first | (simp [RowKit.intOf]; done) | (simp [RowKit.intOf]; omega) | omega
    · obtain rfl : j = l.length := by omega
      clear hX
      have T1 := HT.out
      have cT := tells_ok T1.a T1.k T1.c T1.r T1.i
      clear HT
      go_wp2_with fail
      refine cT.mono ?_
      clear cT
      rintro e w2 ⟨rfl, b2⟩
      have T2 := T1.below b2
      clear T1 b2
      have cT := tells_ok T2.b T2.k T2.d T2.r T2.i
      go_wp2_with fail
      refine cT.mono ?_
      clear cT
      rintro e w3 ⟨rfl, b3⟩
      have T3 := (T2.below b3).hb
      clear T2 b3
      go_wp2_with fail
      go_ret
      exact ⟨rfl, T3⟩

end Go.Proofs.Ytnndohdiiglgmaa.cells
