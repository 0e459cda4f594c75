/- What list asks of a tree, by each of its closures. -/
import Derived.Test.YtchghlbiongccaaKLsF


namespace Go.Proofs.Ytchghlbiongccaa.trees
set_option linter.unusedVariables false
set_option linter.unusedSimpArgs false
open Go.RowKit Go.Shelf Go.Proofs.Ytchghlbiongccaa.base Go.Proofs.Ytchghlbiongccaa.quotas Go.Proofs.Ytchghlbiongccaa.vers Go.Proofs.Ytchghlbiongccaa.nodes

def fitP (ps : List ByteArray) (s : ByteArray) : Bool := (ps.length == 0) || ps.any (hasP s)
def inR (a b s : ByteArray) : Bool := !ltS s a && (decide (b.size = 0) || ltS s b)
def evry (_ : ByteArray) : Bool := true
def upTo (a s : ByteArray) : Bool := !ltS a s
def AskPost (w : World) (L : List PE) (e : Ending) (w' : World) : Prop :=
  Below w.heap.size w w' ∧ ∃ v la, e = .returned (.tuple #[v, .int .i64 0]) ∧ la.map pe = L ∧ w'.ownsRow 0 58 2 v la.length (cellsE la) ∧ (∀ g, v.ownBlock = some g → w.heap.size ≤ g) ∧ ∀ x ∈ la, VsF w' (fun g => w.heap.size ≤ g ∧ g < w'.heap.size) x.l x.A x.c ∧ x.s.size ≤ maxLen
/-- what stands beneath: a heap, a tree in it -/
structure Shown (w : World) (h : Nat) (S : Nat → Prop) (ns : List P3) (r : R) (ht : Nat) (L : List PE) : Prop where
  hp : Hp w h S ns
  root : Root ns r ht L
  low : ht ≤ 4
  fits : r.fits
  len : L.length ≤ 50
theorem Shown.below {w w' : World} {h : Nat} {S : Nat → Prop} {ns : List P3} {r : R} {ht : Nat} {L : List PE} (s : Shown w h S ns r ht L) (hb : Below w.heap.size w w') : Shown w' h S ns r ht L := ⟨s.hp.below hb, s.root, s.low, s.fits, s.len⟩
theorem Shown.all {w : World} {h : Nat} {S : Nat → Prop} {ns : List P3} {r : R} {ht : Nat} {L : List PE} (s : Shown w h S ns r ht L) : ∃ ps : List SP, secretsP ps = L ∧ ps.length ≤ 1000000 ∧ Calls Try.prog 55 #[pv h, r.val] w (APost w ps) := by
  obtain ⟨x, h1, h2, h3, h4⟩ := s.root
  refine ⟨_, secrets_tree ht r 1 x L h2, ?_, allT_ok h S ns ht r x L w s.hp s.fits h1 h2 h3 (by have := s.low; omega)⟩
  have h5 := seenP_len ht r 1 x L h2 h3
  have h6 : 5 ^ ht ≤ 5 ^ 4 := Nat.pow_le_pow_right (by omega) s.low
  have : (5 : Nat) ^ 4 = 625 := rfl
  omega
theorem filtE_yes {f : ByteArray → Bool} {es : List E} {j : Nat} (hj : j < es.length) (h : f es[j].s = true) : (es.take (j + 1)).filter (fun x => f x.s) = (es.take j).filter (fun x => f x.s) ++ [es[j]] := by
  rw [List.take_succ_eq_append_getElem hj, List.filter_append]
  simp [h]
theorem filtE_no {f : ByteArray → Bool} {es : List E} {j : Nat} (hj : j < es.length) (h : f es[j].s = false) : (es.take (j + 1)).filter (fun x => f x.s) = (es.take j).filter (fun x => f x.s) := by
  rw [List.take_succ_eq_append_getElem hj, List.filter_append]
  simp [h]
theorem filtE_le (f : ByteArray → Bool) (es : List E) (j : Nat) : ((es.take j).filter (fun x => f x.s)).length ≤ j := Nat.le_trans (List.length_filter_le _ _) (by rw [List.length_take]; omega)
theorem filtE_pe (f : ByteArray → Bool) (es : List E) : (es.filter fun x => f x.s).map pe = (es.map pe).filter fun y => f y.1 := by
  rw [List.filter_map]
  rfl

set_option maxRecDepth 100000 in
set_option maxHeartbeats 4000000 in
theorem each_any  (s : ByteArray) (l : List V) (A : Option Addr) (c : Nat) (w : World)  :
    Calls Try.prog 72 #[.agg #[.string s, .slice A l.length c]] w fun e w' => e = .returned (.bool (evry s)) ∧ Below w.heap.size w w' := by
  have bZ : Below w.heap.size w (w.alloc (.cells #[.string s, .slice A l.length c] 58)) := (Below.refl _ _).alloc (Nat.le_refl _) _
  have kZ := Blk.new w 58 #[.string s, .slice A l.length c]
  generalize hWZ : w.alloc (.cells #[.string s, .slice A l.length c] 58) = WZ at *
  have y0 := kZ.cell 0
  simp only [List.getElem?_toArray, List.getElem?_cons_zero, List.getElem?_cons_succ] at y0
  have lZ := kZ.lt
  go_enter Try.func72, Try.ntmps72
  go_wp2_with fail
  go_ret
  exact ⟨rfl, bZ⟩

set_option maxRecDepth 100000 in
set_option maxHeartbeats 4000000 in
theorem namesC_any (ps : List ByteArray) (A2 : Option Addr) (c2 g : Nat) (s : ByteArray) (l : List V) (A : Option Addr) (c : Nat) (w : World) (hT : Ts w w.heap.size ps A2 c2) (hg : w.cell? ⟨g, 0, none⟩ = some (.slice A2 ps.length c2)) (hgl : g < w.heap.size) :
    Calls Try.prog 67 #[.agg #[.string s, .slice A l.length c], .pointer (some ⟨g, 0, none⟩)] w fun e w' => e = .returned (.bool (fitP ps s)) ∧ Below w.heap.size w w' := by
  have bZ : Below w.heap.size w (w.alloc (.cells #[.string s, .slice A l.length c] 58)) := (Below.refl _ _).alloc (Nat.le_refl _) _
  have kZ := Blk.new w 58 #[.string s, .slice A l.length c]
  generalize hWZ : w.alloc (.cells #[.string s, .slice A l.length c] 58) = WZ at *
  have y0 := kZ.cell 0
  simp only [List.getElem?_toArray, List.getElem?_cons_zero, List.getElem?_cons_succ] at y0
  have lZ := kZ.lt
  have x0 := (bZ.cell (p := ⟨g, 0, none⟩) hgl).trans hg
  have hc := begins_any s ps A2 c2 WZ (hT.at_world bZ)
  have hl := hT.2.1
  by_cases h : ps.length = 0
  · obtain rfl : ps = [] := List.eq_nil_of_length_eq_zero h
    simp only [List.length_nil] at x0
    have HF := vers.lay (show fitP [] s = true from rfl)
    clear hc hg h hT
    go_enter Try.func67, Try.ntmps67
    go_wp2_with fail
    go_ret
    exact ⟨by first | rfl | (rw [HF.out]; rfl), bZ⟩
  · have d0 : decide ((ps.length : Int) = 0) = false := decide_eq_false (by omega)
    have d1 : ((ps.length : Int) == 0) = false := by rw [beq_eq_false_iff_ne]; omega
    have hf : fitP ps s = ps.any (hasP s) := by
      unfold fitP
      rw [show (ps.length == 0) = false from by rw [beq_eq_false_iff_ne]; exact h, Bool.false_or]
    rw [hf]
    generalize ps.any (hasP s) = b at hc ⊢
    generalize ps.length = n at *
    clear hf hg hT
    go_enter Try.func67, Try.ntmps67
    go_wp2_with fail
    refine hc.mono ?_
    rintro e w1 ⟨rfl, hb1⟩
    go_wp2_with fail
    go_ret
    exact ⟨rfl, bZ.trans (hb1.mono bZ.size)⟩

set_option maxRecDepth 100000 in
set_option maxHeartbeats 4000000 in
theorem rangeC_any (a b : ByteArray) (g d : Nat) (s : ByteArray) (l : List V) (A : Option Addr) (c : Nat) (w : World) (hg : w.cell? ⟨g, 0, none⟩ = some (.string a)) (hgl : g < w.heap.size) (hd : w.cell? ⟨d, 0, none⟩ = some (.string b)) (hdl : d < w.heap.size) :
    Calls Try.prog 71 #[.agg #[.string s, .slice A l.length c], .pointer (some ⟨g, 0, none⟩), .pointer (some ⟨d, 0, none⟩)] w fun e w' => e = .returned (.bool (inR a b s)) ∧ Below w.heap.size w w' := by
  have bZ : Below w.heap.size w (w.alloc (.cells #[.string s, .slice A l.length c] 58)) := (Below.refl _ _).alloc (Nat.le_refl _) _
  have kZ := Blk.new w 58 #[.string s, .slice A l.length c]
  generalize hWZ : w.alloc (.cells #[.string s, .slice A l.length c] 58) = WZ at *
  have y0 := kZ.cell 0
  simp only [List.getElem?_toArray, List.getElem?_cons_zero, List.getElem?_cons_succ] at y0
  have lZ := kZ.lt
  have x0 := (bZ.cell (p := ⟨g, 0, none⟩) hgl).trans hg
  have x1 := (bZ.cell (p := ⟨d, 0, none⟩) hdl).trans hd
  obtain ⟨v, hv⟩ : ∃ v, v = inR a b s := ⟨_, rfl⟩
  have HV := vers.lay hv
  unfold inR at hv
  rw [← HV.out]
  clear hg hd
  cases ha : ltS s a with
  | true =>
    obtain ⟨g1, g2, g3, g4⟩ := clt ha
    have HF := vers.lay (show v = false by rw [hv, ha]; rfl)
    clear hv ha HV

    go_enter Try.func71, Try.ntmps71
    go_wp2_with fail
    go_ret
    exact ⟨by rw [HF.out]; rfl, bZ⟩

  | false =>
    cases ha2 : ltS a s with
    | true =>
      obtain ⟨g1, g2, g3, g4⟩ := clt ha2
      clear ha2
      by_cases hb0 : b.size = 0
      · obtain rfl : b = ⟨#[]⟩ := by
          cases b with
          | mk d => have : d.size = 0 := hb0; simp only [ByteArray.mk.injEq]; exact Array.eq_empty_of_size_eq_zero this
        have HF := vers.lay (show v = true by rw [hv, ha]; rfl)
        clear hv ha hb0 HV

        go_enter Try.func71, Try.ntmps71
        go_wp2_with fail
        go_ret
        exact ⟨by rw [HF.out]; rfl, bZ⟩

      · have g6 : (b.toList == ([] : List UInt8)) = false := by
          rw [beq_eq_false_iff_ne, Lib.toList_data]
          intro h
          apply hb0
          have : b.data.size = 0 := by rw [← Array.length_toList, h]; rfl
          exact this
        have g7 : (b.toList == (ByteArray.mk #[]).toList) = false := by
          rw [beq_eq_false_iff_ne, Lib.toList_data, Lib.toList_data]
          intro h
          apply hb0
          have : b.data.size = 0 := by rw [← Array.length_toList, h]; rfl
          exact this
        cases hb : ltS s b with
        | true =>
          obtain ⟨q1, q2, q3, q4⟩ := clt hb
          have HF := vers.lay (show v = true by rw [hv, ha, hb]; simp)
          clear hv ha hb HV hb0

          go_enter Try.func71, Try.ntmps71
          go_wp2_with fail
          go_ret
          exact ⟨by rw [HF.out]; rfl, bZ⟩

        | false =>
          have q1 : Op.bytesLess s.toList b.toList = false := by rw [Go.Proofs.bytesLess_eq, Lib.toList_data, Lib.toList_data]; exact hb
          have HF := vers.lay (show v = false by rw [hv, ha, hb]; simp [hb0])
          clear hv ha hb HV hb0

          go_enter Try.func71, Try.ntmps71
          go_wp2_with fail
          go_ret
          exact ⟨by rw [HF.out]; rfl, bZ⟩

    | false =>
      obtain rfl : s = a := ltS_total ha ha2
      obtain ⟨g1, g2⟩ := ceq s
      clear ha2
      by_cases hb0 : b.size = 0
      · obtain rfl : b = ⟨#[]⟩ := by
          cases b with
          | mk d => have : d.size = 0 := hb0; simp only [ByteArray.mk.injEq]; exact Array.eq_empty_of_size_eq_zero this
        have HF := vers.lay (show v = true by rw [hv, ha]; rfl)
        clear hv ha hb0 HV

        go_enter Try.func71, Try.ntmps71
        go_wp2_with fail
        go_ret
        exact ⟨by rw [HF.out]; rfl, bZ⟩

      · have g6 : (b.toList == ([] : List UInt8)) = false := by
          rw [beq_eq_false_iff_ne, Lib.toList_data]
          intro h
          apply hb0
          have : b.data.size = 0 := by rw [← Array.length_toList, h]; rfl
          exact this
        have g7 : (b.toList == (ByteArray.mk #[]).toList) = false := by
          rw [beq_eq_false_iff_ne, Lib.toList_data, Lib.toList_data]
          intro h
          apply hb0
          have : b.data.size = 0 := by rw [← Array.length_toList, h]; rfl
          exact this
        cases hb : ltS s b with
        | true =>
          obtain ⟨q1, q2, q3, q4⟩ := clt hb
          have HF := vers.lay (show v = true by rw [hv, ha, hb]; simp)
          clear hv ha hb HV hb0

          go_enter Try.func71, Try.ntmps71
          go_wp2_with fail
          go_ret
          exact ⟨by rw [HF.out]; rfl, bZ⟩

        | false =>
          have q1 : Op.bytesLess s.toList b.toList = false := by rw [Go.Proofs.bytesLess_eq, Lib.toList_data, Lib.toList_data]; exact hb
          have HF := vers.lay (show v = false by rw [hv, ha, hb]; simp [hb0])
          clear hv ha hb HV hb0

          go_enter Try.func71, Try.ntmps71
          go_wp2_with fail
          go_ret
          exact ⟨by rw [HF.out]; rfl, bZ⟩

set_option maxRecDepth 100000 in
set_option maxHeartbeats 4000000 in
theorem floorC_any (a : ByteArray) (g : Nat) (s : ByteArray) (l : List V) (A : Option Addr) (c : Nat) (w : World) (hg : w.cell? ⟨g, 0, none⟩ = some (.string a)) (hgl : g < w.heap.size) :
    Calls Try.prog 73 #[.agg #[.string s, .slice A l.length c], .pointer (some ⟨g, 0, none⟩)] w fun e w' => e = .returned (.bool (upTo a s)) ∧ Below w.heap.size w w' := by
  have bZ : Below w.heap.size w (w.alloc (.cells #[.string s, .slice A l.length c] 58)) := (Below.refl _ _).alloc (Nat.le_refl _) _
  have kZ := Blk.new w 58 #[.string s, .slice A l.length c]
  generalize hWZ : w.alloc (.cells #[.string s, .slice A l.length c] 58) = WZ at *
  have y0 := kZ.cell 0
  simp only [List.getElem?_toArray, List.getElem?_cons_zero, List.getElem?_cons_succ] at y0
  have lZ := kZ.lt
  have x0 := (bZ.cell (p := ⟨g, 0, none⟩) hgl).trans hg
  obtain ⟨v, hv⟩ : ∃ v, v = upTo a s := ⟨_, rfl⟩
  have HV := vers.lay hv
  unfold upTo at hv
  rw [← HV.out]
  clear hg
  cases ha : ltS a s with
  | true =>
    obtain ⟨g1, g2, g3, g4⟩ := clt ha
    have HF := vers.lay (show v = false by rw [hv, ha]; rfl)
    clear hv ha HV
    go_enter Try.func73, Try.ntmps73
    go_wp2_with fail
    go_ret
    exact ⟨by rw [HF.out]; rfl, bZ⟩
  | false =>
    have HF := vers.lay (show v = true by rw [hv, ha]; rfl)
    cases ha2 : ltS s a with
    | true =>
      obtain ⟨g1, g2, g3, g4⟩ := clt ha2
      clear hv ha HV ha2
      go_enter Try.func73, Try.ntmps73
      go_wp2_with fail
      go_ret
      exact ⟨by rw [HF.out]; rfl, bZ⟩
    | false =>
      obtain rfl : s = a := ltS_total ha2 ha
      obtain ⟨g1, g2⟩ := ceq s
      clear hv ha HV ha2
      go_enter Try.func73, Try.ntmps73
      go_wp2_with fail
      go_ret
      exact ⟨by rw [HF.out]; rfl, bZ⟩

set_option maxRecDepth 100000 in
set_option maxHeartbeats 4000000 in
theorem asked_each  (h : Nat) (S : Nat → Prop) (ns : List P3) (r : R) (ht : Nat) (L : List PE) (w : World) (hS : Shown w h S ns r ht L)  :
    Calls Try.prog 66 #[pv h, r.val, (.func (.func 72) #[] #[])] w (AskPost w (L.filter fun y => evry y.1)) := by
  obtain ⟨rk, rg, ro, rn⟩ := r
  have bR : Below w.heap.size w (w.alloc (.cells #[.int .u64 (rk : Int), .int .i64 rg, .int .i64 ro, .int .i64 rn] 44)) := (Below.refl _ _).alloc (Nat.le_refl _) _
  have kR := Blk.new w 44 #[.int .u64 (rk : Int), .int .i64 rg, .int .i64 ro, .int .i64 rn]
  obtain ⟨ps, hps, hpl, hall⟩ := (hS.below bR).all
  have hLl := hS.len
  generalize hWR : w.alloc (.cells #[.int .u64 (rk : Int), .int .i64 rg, .int .i64 ro, .int .i64 rn] 44) = WR at *
  have z0 := kR.cell 0
  have z1 := kR.cell 1
  have z2 := kR.cell 2
  have z3 := kR.cell 3
  simp only [List.getElem?_toArray, List.getElem?_cons_zero, List.getElem?_cons_succ] at z0 z1 z2 z3
  have lR := kR.lt
  clear hS kR
  go_enter Try.func66, Try.ntmps66
  go_wp2_with fail
  refine hall.mono ?_
  rintro e w1 ⟨hb1, l, v, rfl, hl, hSn⟩
  clear hall z0 z1 z2 z3
  have hlen2 : (secretsN l).map pe = L := by rw [secretsN_p, hl, hps]
  have hlen3 : (secretsN l).length ≤ 50 := by rw [← List.length_map (f := pe), hlen2]; exact hLl
  have hll : l.length ≤ 1000000 := by rw [← List.length_map (f := psn), hl]; exact hpl
  have hsec := secrets_ok l _ v w1 hSn (fun g hg => hg.2) (by omega) hll
  have HF := vers.lay hlen2
  clear hl hps hpl hlen2 hll
  generalize secretsN l = le at *
  go_wp2_with fail
  refine hsec.mono ?_
  rintro e w2 ⟨hb2, u, rfl, hrow, hown, hel⟩
  clear hsec hSn
  have b12 : Below w.heap.size w w2 := bR.trans ((hb1.mono bR.size).trans (hb2.mono (Nat.le_trans bR.size hb1.size)))
  have hel2 : ∀ x ∈ le, VsF w2 (fun g => w.heap.size ≤ g ∧ g < w2.heap.size) x.l x.A x.c ∧ x.s.size ≤ maxLen := fun x hx => ⟨(hel x hx).1.mono (fun g hg => ⟨Nat.le_trans bR.size hg.1, Nat.lt_of_lt_of_le hg.2 hb2.size⟩), (hel x hx).2⟩
  clear hel bR hb1 hb2 hown
  obtain ⟨Au, cu, rfl, _⟩ := row_at hrow
  have HEL := vers.lay hel2
  clear hel2
  go_wp2_with fail
  go_loopw [25, 10] (fun i u wr => ∃ j : Nat, j ≤ le.length ∧ i = .int .i64 (j : Int) ∧ Below w2.heap.size w2 wr ∧ wr.ownsRow 0 58 2 u ((le.take j).filter fun x => evry x.s).length (cellsE ((le.take j).filter fun x => evry x.s)) ∧ Hid (∀ g, u.ownBlock = some g → w2.heap.size ≤ g)) (fun i _ _ => le.length - (intOf i).toNat)
  case atStart => exact ⟨0, Nat.zero_le _, rfl, Below.refl _ _, ⟨rfl, .inl ⟨rfl, rfl⟩⟩, vers.lay (fun g hg => by cases hg)⟩
  case round =>
    obtain ⟨j, hj, rfl, hb, ho, hu⟩ := hrel
    by_cases hlt : j < le.length
    · obtain ⟨_, _, ea, hcell⟩ := row_at (row_below hrow hb)
      injection ea with ea1 _ ea2
      subst ea1 ea2
      obtain ⟨b, rfl, hob, hbl, y0, y1⟩ := hcell j hlt
      clear hcell
      have hdy := vers.lay (filtE_yes (f := evry) hlt)
      have hdn := vers.lay (filtE_no (f := evry) hlt)
      have hfl := filtE_le (evry) le j
      generalize le[j] = x at y0 y1 hdy hdn
      obtain ⟨xs, xl, xA, xc⟩ := x
      simp only [] at y0 y1
      have bX : Below wr.heap.size wr (wr.alloc (.cells #[.string xs, .slice xA xl.length xc] 58)) := (Below.refl _ _).alloc (Nat.le_refl _) _
      have kX := Blk.new wr 58 #[.string xs, .slice xA xl.length xc]
      have hoX := row_below ho bX
      have hbs := hb.size
      have hbX := hb.trans (bX.mono hbs)
      have hwX : Below w.heap.size w _ := b12.trans (hbX.mono b12.size)
      have hcl := each_any xs xl xA xc (wr.alloc (.cells #[.string xs, .slice xA xl.length xc] 58))
      generalize hWX : wr.alloc (.cells #[.string xs, .slice xA xl.length xc] 58) = WX at *
      have q0 := kX.cell 0
      have q1 := kX.cell 1
      simp only [List.getElem?_toArray, List.getElem?_cons_zero, List.getElem?_cons_succ] at q0 q1
      have lX := kX.lt
      obtain ⟨old, hold⟩ : ∃ old, old = (le.take j).filter fun x => evry x.s := ⟨_, rfl⟩
      rw [← hold] at ho hoX hfl
      have HOLD := vers.lay hold
      have HROW := vers.lay hrow
      clear hold hrow ho hwX
      cases hfx : evry xs with
      | true =>
        rw [hfx] at hcl
        have HD := vers.lay (hdy.out hfx)
        clear hdy hdn hfx
        go_wp2_with (first | (go_at_call 72; refine hcl.mono ?_; rintro e1 w3 ⟨rfl, hb3⟩; have kX3 := kX.below hb3 kX.lt; have ho3 := row_below hoX hb3; have t0 := kX3.cell 0; have t1 := kX3.cell 1; simp only [List.getElem?_toArray, List.getElem?_cons_zero, List.getElem?_cons_succ] at t0 t1; have lX3 := kX3.lt; have hb4 := hbX.trans (hb3.mono hbX.size)) | (at_builtin; refine wp_secret (e := ⟨xs, xl, xA, xc⟩) rfl _ _ rfl ho3 rfl rfl rfl (by omega) ?_; intro v9 w9 ho9 hk9 hv9 hz9))
        refine ⟨⟨j + 1, hlt, by go_num, hb4.trans (hk9.below (fun g hg => hu.out g hg) hb4.size), by rw [HD.out, ← HOLD.out]; exact ho9, vers.lay (fun g hg => (hv9 g hg).elim (fun h => hu.out g h) (fun h => Nat.le_trans hb4.size h.1))⟩, by first | (simp [intOf]; done) | (simp [intOf]; omega) | omega⟩
      | false =>
        rw [hfx] at hcl
        have HD := vers.lay (hdn.out hfx)
        clear hdy hdn hfx
        go_wp2_with (go_at_call 72; refine hcl.mono ?_; rintro e1 w3 ⟨rfl, hb3⟩; have ho3 := row_below hoX hb3; have hb4 := hbX.trans (hb3.mono hbX.size))
        refine ⟨⟨j + 1, hlt, by go_num, hb4, by rw [HD.out, ← HOLD.out]; exact ho3, hu⟩, by first | (simp [intOf]; done) | (simp [intOf]; omega) | omega⟩
    · obtain rfl : j = le.length := by omega
      have HEQ := vers.lay (filtE_pe (evry) le)
      rw [List.take_length] at ho
      obtain ⟨old, hold⟩ : ∃ old, old = le.filter fun x => evry x.s := ⟨_, rfl⟩
      rw [← hold] at ho
      have HOLD := vers.lay hold
      clear hold
      go_wp2_with fail
      refine bodyPost_ret (v := .tuple #[u10, .int .i64 0]) (by simp [results, Try.results66, go_sem]) rfl ⟨b12.trans (hb.mono b12.size), u10, old, rfl, by rw [HOLD.out, HEQ.out, HF.out], ho, fun g hg => Nat.le_trans b12.size (hu.out g hg), fun x hx => ?_⟩
      rw [HOLD.out] at hx
      have h1 := HEL.out x ((List.mem_filter.1 hx).1)
      exact ⟨(h1.1.agree (Agree.of_below hb fun g hg => hg.2)).mono (fun g hg => ⟨hg.1, Nat.lt_of_lt_of_le hg.2 hb.size⟩), h1.2⟩

set_option maxRecDepth 100000 in
set_option maxHeartbeats 4000000 in
theorem asked_names (qs : List ByteArray) (A2 : Option Addr) (c2 g : Nat) (h : Nat) (S : Nat → Prop) (ns : List P3) (r : R) (ht : Nat) (L : List PE) (w : World) (hS : Shown w h S ns r ht L) (hT : Ts w w.heap.size qs A2 c2) (hg : w.cell? ⟨g, 0, none⟩ = some (.slice A2 qs.length c2)) (hgl : g < w.heap.size) :
    Calls Try.prog 66 #[pv h, r.val, (.func (.func 67) #[] #[.pointer (some ⟨g, 0, none⟩)])] w (AskPost w (L.filter fun y => fitP qs y.1)) := by
  obtain ⟨rk, rg, ro, rn⟩ := r
  have bR : Below w.heap.size w (w.alloc (.cells #[.int .u64 (rk : Int), .int .i64 rg, .int .i64 ro, .int .i64 rn] 44)) := (Below.refl _ _).alloc (Nat.le_refl _) _
  have kR := Blk.new w 44 #[.int .u64 (rk : Int), .int .i64 rg, .int .i64 ro, .int .i64 rn]
  obtain ⟨ps, hps, hpl, hall⟩ := (hS.below bR).all
  have hLl := hS.len
  generalize hWR : w.alloc (.cells #[.int .u64 (rk : Int), .int .i64 rg, .int .i64 ro, .int .i64 rn] 44) = WR at *
  have z0 := kR.cell 0
  have z1 := kR.cell 1
  have z2 := kR.cell 2
  have z3 := kR.cell 3
  simp only [List.getElem?_toArray, List.getElem?_cons_zero, List.getElem?_cons_succ] at z0 z1 z2 z3
  have lR := kR.lt
  clear hS kR
  go_enter Try.func66, Try.ntmps66
  go_wp2_with fail
  refine hall.mono ?_
  rintro e w1 ⟨hb1, l, v, rfl, hl, hSn⟩
  clear hall z0 z1 z2 z3
  have hlen2 : (secretsN l).map pe = L := by rw [secretsN_p, hl, hps]
  have hlen3 : (secretsN l).length ≤ 50 := by rw [← List.length_map (f := pe), hlen2]; exact hLl
  have hll : l.length ≤ 1000000 := by rw [← List.length_map (f := psn), hl]; exact hpl
  have hsec := secrets_ok l _ v w1 hSn (fun g hg => hg.2) (by omega) hll
  have HF := vers.lay hlen2
  clear hl hps hpl hlen2 hll
  generalize secretsN l = le at *
  go_wp2_with fail
  refine hsec.mono ?_
  rintro e w2 ⟨hb2, u, rfl, hrow, hown, hel⟩
  clear hsec hSn
  have b12 : Below w.heap.size w w2 := bR.trans ((hb1.mono bR.size).trans (hb2.mono (Nat.le_trans bR.size hb1.size)))
  have hel2 : ∀ x ∈ le, VsF w2 (fun g => w.heap.size ≤ g ∧ g < w2.heap.size) x.l x.A x.c ∧ x.s.size ≤ maxLen := fun x hx => ⟨(hel x hx).1.mono (fun g hg => ⟨Nat.le_trans bR.size hg.1, Nat.lt_of_lt_of_le hg.2 hb2.size⟩), (hel x hx).2⟩
  clear hel bR hb1 hb2 hown
  obtain ⟨Au, cu, rfl, _⟩ := row_at hrow
  have HEL := vers.lay hel2
  clear hel2
  go_wp2_with fail
  go_loopw [25, 10] (fun i u wr => ∃ j : Nat, j ≤ le.length ∧ i = .int .i64 (j : Int) ∧ Below w2.heap.size w2 wr ∧ wr.ownsRow 0 58 2 u ((le.take j).filter fun x => fitP qs x.s).length (cellsE ((le.take j).filter fun x => fitP qs x.s)) ∧ Hid (∀ g, u.ownBlock = some g → w2.heap.size ≤ g)) (fun i _ _ => le.length - (intOf i).toNat)
  case atStart => exact ⟨0, Nat.zero_le _, rfl, Below.refl _ _, ⟨rfl, .inl ⟨rfl, rfl⟩⟩, vers.lay (fun g hg => by cases hg)⟩
  case round =>
    obtain ⟨j, hj, rfl, hb, ho, hu⟩ := hrel
    by_cases hlt : j < le.length
    · obtain ⟨_, _, ea, hcell⟩ := row_at (row_below hrow hb)
      injection ea with ea1 _ ea2
      subst ea1 ea2
      obtain ⟨b, rfl, hob, hbl, y0, y1⟩ := hcell j hlt
      clear hcell
      have hdy := vers.lay (filtE_yes (f := fitP qs) hlt)
      have hdn := vers.lay (filtE_no (f := fitP qs) hlt)
      have hfl := filtE_le (fitP qs) le j
      generalize le[j] = x at y0 y1 hdy hdn
      obtain ⟨xs, xl, xA, xc⟩ := x
      simp only [] at y0 y1
      have bX : Below wr.heap.size wr (wr.alloc (.cells #[.string xs, .slice xA xl.length xc] 58)) := (Below.refl _ _).alloc (Nat.le_refl _) _
      have kX := Blk.new wr 58 #[.string xs, .slice xA xl.length xc]
      have hoX := row_below ho bX
      have hbs := hb.size
      have hbX := hb.trans (bX.mono hbs)
      have hwX : Below w.heap.size w _ := b12.trans (hbX.mono b12.size)
      have hcl := namesC_any qs A2 c2 g xs xl xA xc (_) (hT.at_world hwX) ((hwX.cell (p := ⟨g, 0, none⟩) hgl).trans hg) (Nat.lt_of_lt_of_le hgl hwX.size)
      generalize hWX : wr.alloc (.cells #[.string xs, .slice xA xl.length xc] 58) = WX at *
      have q0 := kX.cell 0
      have q1 := kX.cell 1
      simp only [List.getElem?_toArray, List.getElem?_cons_zero, List.getElem?_cons_succ] at q0 q1
      have lX := kX.lt
      obtain ⟨old, hold⟩ : ∃ old, old = (le.take j).filter fun x => fitP qs x.s := ⟨_, rfl⟩
      rw [← hold] at ho hoX hfl
      have HOLD := vers.lay hold
      have HROW := vers.lay hrow
      clear hold hrow ho hwX
      cases hfx : fitP qs xs with
      | true =>
        rw [hfx] at hcl
        have HD := vers.lay (hdy.out hfx)
        clear hdy hdn hfx
        go_wp2_with (first | (go_at_call 67; refine hcl.mono ?_; rintro e1 w3 ⟨rfl, hb3⟩; have kX3 := kX.below hb3 kX.lt; have ho3 := row_below hoX hb3; have t0 := kX3.cell 0; have t1 := kX3.cell 1; simp only [List.getElem?_toArray, List.getElem?_cons_zero, List.getElem?_cons_succ] at t0 t1; have lX3 := kX3.lt; have hb4 := hbX.trans (hb3.mono hbX.size)) | (at_builtin; refine wp_secret (e := ⟨xs, xl, xA, xc⟩) rfl _ _ rfl ho3 rfl rfl rfl (by omega) ?_; intro v9 w9 ho9 hk9 hv9 hz9))
        refine ⟨⟨j + 1, hlt, by go_num, hb4.trans (hk9.below (fun g hg => hu.out g hg) hb4.size), by rw [HD.out, ← HOLD.out]; exact ho9, vers.lay (fun g hg => (hv9 g hg).elim (fun h => hu.out g h) (fun h => Nat.le_trans hb4.size h.1))⟩, by first | (simp [intOf]; done) | (simp [intOf]; omega) | omega⟩
      | false =>
        rw [hfx] at hcl
        have HD := vers.lay (hdn.out hfx)
        clear hdy hdn hfx
        go_wp2_with (go_at_call 67; refine hcl.mono ?_; rintro e1 w3 ⟨rfl, hb3⟩; have ho3 := row_below hoX hb3; have hb4 := hbX.trans (hb3.mono hbX.size))
        refine ⟨⟨j + 1, hlt, by go_num, hb4, by rw [HD.out, ← HOLD.out]; exact ho3, hu⟩, by first | (simp [intOf]; done) | (simp [intOf]; omega) | omega⟩
    · obtain rfl : j = le.length := by omega
      have HEQ := vers.lay (filtE_pe (fitP qs) le)
      rw [List.take_length] at ho
      obtain ⟨old, hold⟩ : ∃ old, old = le.filter fun x => fitP qs x.s := ⟨_, rfl⟩
      rw [← hold] at ho
      have HOLD := vers.lay hold
      clear hold
      go_wp2_with fail
      refine bodyPost_ret (v := .tuple #[u10, .int .i64 0]) (by simp [results, Try.results66, go_sem]) rfl ⟨b12.trans (hb.mono b12.size), u10, old, rfl, by rw [HOLD.out, HEQ.out, HF.out], ho, fun g hg => Nat.le_trans b12.size (hu.out g hg), fun x hx => ?_⟩
      rw [HOLD.out] at hx
      have h1 := HEL.out x ((List.mem_filter.1 hx).1)
      exact ⟨(h1.1.agree (Agree.of_below hb fun g hg => hg.2)).mono (fun g hg => ⟨hg.1, Nat.lt_of_lt_of_le hg.2 hb.size⟩), h1.2⟩

set_option maxRecDepth 100000 in
set_option maxHeartbeats 4000000 in
theorem asked_range (ta tb : ByteArray) (g d : Nat) (h : Nat) (S : Nat → Prop) (ns : List P3) (r : R) (ht : Nat) (L : List PE) (w : World) (hS : Shown w h S ns r ht L) (hg : w.cell? ⟨g, 0, none⟩ = some (.string ta)) (hgl : g < w.heap.size) (hd : w.cell? ⟨d, 0, none⟩ = some (.string tb)) (hdl : d < w.heap.size) :
    Calls Try.prog 66 #[pv h, r.val, (.func (.func 71) #[] #[.pointer (some ⟨g, 0, none⟩), .pointer (some ⟨d, 0, none⟩)])] w (AskPost w (L.filter fun y => inR ta tb y.1)) := by
  obtain ⟨rk, rg, ro, rn⟩ := r
  have bR : Below w.heap.size w (w.alloc (.cells #[.int .u64 (rk : Int), .int .i64 rg, .int .i64 ro, .int .i64 rn] 44)) := (Below.refl _ _).alloc (Nat.le_refl _) _
  have kR := Blk.new w 44 #[.int .u64 (rk : Int), .int .i64 rg, .int .i64 ro, .int .i64 rn]
  obtain ⟨ps, hps, hpl, hall⟩ := (hS.below bR).all
  have hLl := hS.len
  generalize hWR : w.alloc (.cells #[.int .u64 (rk : Int), .int .i64 rg, .int .i64 ro, .int .i64 rn] 44) = WR at *
  have z0 := kR.cell 0
  have z1 := kR.cell 1
  have z2 := kR.cell 2
  have z3 := kR.cell 3
  simp only [List.getElem?_toArray, List.getElem?_cons_zero, List.getElem?_cons_succ] at z0 z1 z2 z3
  have lR := kR.lt
  clear hS kR
  go_enter Try.func66, Try.ntmps66
  go_wp2_with fail
  refine hall.mono ?_
  rintro e w1 ⟨hb1, l, v, rfl, hl, hSn⟩
  clear hall z0 z1 z2 z3
  have hlen2 : (secretsN l).map pe = L := by rw [secretsN_p, hl, hps]
  have hlen3 : (secretsN l).length ≤ 50 := by rw [← List.length_map (f := pe), hlen2]; exact hLl
  have hll : l.length ≤ 1000000 := by rw [← List.length_map (f := psn), hl]; exact hpl
  have hsec := secrets_ok l _ v w1 hSn (fun g hg => hg.2) (by omega) hll
  have HF := vers.lay hlen2
  clear hl hps hpl hlen2 hll
  generalize secretsN l = le at *
  go_wp2_with fail
  refine hsec.mono ?_
  rintro e w2 ⟨hb2, u, rfl, hrow, hown, hel⟩
  clear hsec hSn
  have b12 : Below w.heap.size w w2 := bR.trans ((hb1.mono bR.size).trans (hb2.mono (Nat.le_trans bR.size hb1.size)))
  have hel2 : ∀ x ∈ le, VsF w2 (fun g => w.heap.size ≤ g ∧ g < w2.heap.size) x.l x.A x.c ∧ x.s.size ≤ maxLen := fun x hx => ⟨(hel x hx).1.mono (fun g hg => ⟨Nat.le_trans bR.size hg.1, Nat.lt_of_lt_of_le hg.2 hb2.size⟩), (hel x hx).2⟩
  clear hel bR hb1 hb2 hown
  obtain ⟨Au, cu, rfl, _⟩ := row_at hrow
  have HEL := vers.lay hel2
  clear hel2
  go_wp2_with fail
  go_loopw [25, 10] (fun i u wr => ∃ j : Nat, j ≤ le.length ∧ i = .int .i64 (j : Int) ∧ Below w2.heap.size w2 wr ∧ wr.ownsRow 0 58 2 u ((le.take j).filter fun x => inR ta tb x.s).length (cellsE ((le.take j).filter fun x => inR ta tb x.s)) ∧ Hid (∀ g, u.ownBlock = some g → w2.heap.size ≤ g)) (fun i _ _ => le.length - (intOf i).toNat)
  case atStart => exact ⟨0, Nat.zero_le _, rfl, Below.refl _ _, ⟨rfl, .inl ⟨rfl, rfl⟩⟩, vers.lay (fun g hg => by cases hg)⟩
  case round =>
    obtain ⟨j, hj, rfl, hb, ho, hu⟩ := hrel
    by_cases hlt : j < le.length
    · obtain ⟨_, _, ea, hcell⟩ := row_at (row_below hrow hb)
      injection ea with ea1 _ ea2
      subst ea1 ea2
      obtain ⟨b, rfl, hob, hbl, y0, y1⟩ := hcell j hlt
      clear hcell
      have hdy := vers.lay (filtE_yes (f := inR ta tb) hlt)
      have hdn := vers.lay (filtE_no (f := inR ta tb) hlt)
      have hfl := filtE_le (inR ta tb) le j
      generalize le[j] = x at y0 y1 hdy hdn
      obtain ⟨xs, xl, xA, xc⟩ := x
      simp only [] at y0 y1
      have bX : Below wr.heap.size wr (wr.alloc (.cells #[.string xs, .slice xA xl.length xc] 58)) := (Below.refl _ _).alloc (Nat.le_refl _) _
      have kX := Blk.new wr 58 #[.string xs, .slice xA xl.length xc]
      have hoX := row_below ho bX
      have hbs := hb.size
      have hbX := hb.trans (bX.mono hbs)
      have hwX : Below w.heap.size w _ := b12.trans (hbX.mono b12.size)
      have hcl := rangeC_any ta tb g d xs xl xA xc (_) ((hwX.cell (p := ⟨g, 0, none⟩) hgl).trans hg) (Nat.lt_of_lt_of_le hgl hwX.size) ((hwX.cell (p := ⟨d, 0, none⟩) hdl).trans hd) (Nat.lt_of_lt_of_le hdl hwX.size)
      generalize hWX : wr.alloc (.cells #[.string xs, .slice xA xl.length xc] 58) = WX at *
      have q0 := kX.cell 0
      have q1 := kX.cell 1
      simp only [List.getElem?_toArray, List.getElem?_cons_zero, List.getElem?_cons_succ] at q0 q1
      have lX := kX.lt
      obtain ⟨old, hold⟩ : ∃ old, old = (le.take j).filter fun x => inR ta tb x.s := ⟨_, rfl⟩
      rw [← hold] at ho hoX hfl
      have HOLD := vers.lay hold
      have HROW := vers.lay hrow
      clear hold hrow ho hwX
      cases hfx : inR ta tb xs with
      | true =>
        rw [hfx] at hcl
        have HD := vers.lay (hdy.out hfx)
        clear hdy hdn hfx
        go_wp2_with (first | (go_at_call 71; refine hcl.mono ?_; rintro e1 w3 ⟨rfl, hb3⟩; have kX3 := kX.below hb3 kX.lt; have ho3 := row_below hoX hb3; have t0 := kX3.cell 0; have t1 := kX3.cell 1; simp only [List.getElem?_toArray, List.getElem?_cons_zero, List.getElem?_cons_succ] at t0 t1; have lX3 := kX3.lt; have hb4 := hbX.trans (hb3.mono hbX.size)) | (at_builtin; refine wp_secret (e := ⟨xs, xl, xA, xc⟩) rfl _ _ rfl ho3 rfl rfl rfl (by omega) ?_; intro v9 w9 ho9 hk9 hv9 hz9))
        refine ⟨⟨j + 1, hlt, by go_num, hb4.trans (hk9.below (fun g hg => hu.out g hg) hb4.size), by rw [HD.out, ← HOLD.out]; exact ho9, vers.lay (fun g hg => (hv9 g hg).elim (fun h => hu.out g h) (fun h => Nat.le_trans hb4.size h.1))⟩, by first | (simp [intOf]; done) | (simp [intOf]; omega) | omega⟩
      | false =>
        rw [hfx] at hcl
        have HD := vers.lay (hdn.out hfx)
        clear hdy hdn hfx
        go_wp2_with (go_at_call 71; refine hcl.mono ?_; rintro e1 w3 ⟨rfl, hb3⟩; have ho3 := row_below hoX hb3; have hb4 := hbX.trans (hb3.mono hbX.size))
        refine ⟨⟨j + 1, hlt, by go_num, hb4, by rw [HD.out, ← HOLD.out]; exact ho3, hu⟩, by first | (simp [intOf]; done) | (simp [intOf]; omega) | omega⟩
    · obtain rfl : j = le.length := by omega
      have HEQ := vers.lay (filtE_pe (inR ta tb) le)
      rw [List.take_length] at ho
      obtain ⟨old, hold⟩ : ∃ old, old = le.filter fun x => inR ta tb x.s := ⟨_, rfl⟩
      rw [← hold] at ho
      have HOLD := vers.lay hold
      clear hold
      go_wp2_with fail
      refine bodyPost_ret (v := .tuple #[u10, .int .i64 0]) (by simp [results, Try.results66, go_sem]) rfl ⟨b12.trans (hb.mono b12.size), u10, old, rfl, by rw [HOLD.out, HEQ.out, HF.out], ho, fun g hg => Nat.le_trans b12.size (hu.out g hg), fun x hx => ?_⟩
      rw [HOLD.out] at hx
      have h1 := HEL.out x ((List.mem_filter.1 hx).1)
      exact ⟨(h1.1.agree (Agree.of_below hb fun g hg => hg.2)).mono (fun g hg => ⟨hg.1, Nat.lt_of_lt_of_le hg.2 hb.size⟩), h1.2⟩

set_option maxRecDepth 100000 in
set_option maxHeartbeats 4000000 in
theorem asked_floor (ta : ByteArray) (g : Nat) (h : Nat) (S : Nat → Prop) (ns : List P3) (r : R) (ht : Nat) (L : List PE) (w : World) (hS : Shown w h S ns r ht L) (hg : w.cell? ⟨g, 0, none⟩ = some (.string ta)) (hgl : g < w.heap.size) :
    Calls Try.prog 66 #[pv h, r.val, (.func (.func 73) #[] #[.pointer (some ⟨g, 0, none⟩)])] w (AskPost w (L.filter fun y => upTo ta y.1)) := by
  obtain ⟨rk, rg, ro, rn⟩ := r
  have bR : Below w.heap.size w (w.alloc (.cells #[.int .u64 (rk : Int), .int .i64 rg, .int .i64 ro, .int .i64 rn] 44)) := (Below.refl _ _).alloc (Nat.le_refl _) _
  have kR := Blk.new w 44 #[.int .u64 (rk : Int), .int .i64 rg, .int .i64 ro, .int .i64 rn]
  obtain ⟨ps, hps, hpl, hall⟩ := (hS.below bR).all
  have hLl := hS.len
  generalize hWR : w.alloc (.cells #[.int .u64 (rk : Int), .int .i64 rg, .int .i64 ro, .int .i64 rn] 44) = WR at *
  have z0 := kR.cell 0
  have z1 := kR.cell 1
  have z2 := kR.cell 2
  have z3 := kR.cell 3
  simp only [List.getElem?_toArray, List.getElem?_cons_zero, List.getElem?_cons_succ] at z0 z1 z2 z3
  have lR := kR.lt
  clear hS kR
  go_enter Try.func66, Try.ntmps66
  go_wp2_with fail
  refine hall.mono ?_
  rintro e w1 ⟨hb1, l, v, rfl, hl, hSn⟩
  clear hall z0 z1 z2 z3
  have hlen2 : (secretsN l).map pe = L := by rw [secretsN_p, hl, hps]
  have hlen3 : (secretsN l).length ≤ 50 := by rw [← List.length_map (f := pe), hlen2]; exact hLl
  have hll : l.length ≤ 1000000 := by rw [← List.length_map (f := psn), hl]; exact hpl
  have hsec := secrets_ok l _ v w1 hSn (fun g hg => hg.2) (by omega) hll
  have HF := vers.lay hlen2
  clear hl hps hpl hlen2 hll
  generalize secretsN l = le at *
  go_wp2_with fail
  refine hsec.mono ?_
  rintro e w2 ⟨hb2, u, rfl, hrow, hown, hel⟩
  clear hsec hSn
  have b12 : Below w.heap.size w w2 := bR.trans ((hb1.mono bR.size).trans (hb2.mono (Nat.le_trans bR.size hb1.size)))
  have hel2 : ∀ x ∈ le, VsF w2 (fun g => w.heap.size ≤ g ∧ g < w2.heap.size) x.l x.A x.c ∧ x.s.size ≤ maxLen := fun x hx => ⟨(hel x hx).1.mono (fun g hg => ⟨Nat.le_trans bR.size hg.1, Nat.lt_of_lt_of_le hg.2 hb2.size⟩), (hel x hx).2⟩
  clear hel bR hb1 hb2 hown
  obtain ⟨Au, cu, rfl, _⟩ := row_at hrow
  have HEL := vers.lay hel2
  clear hel2
  go_wp2_with fail
  go_loopw [25, 10] (fun i u wr => ∃ j : Nat, j ≤ le.length ∧ i = .int .i64 (j : Int) ∧ Below w2.heap.size w2 wr ∧ wr.ownsRow 0 58 2 u ((le.take j).filter fun x => upTo ta x.s).length (cellsE ((le.take j).filter fun x => upTo ta x.s)) ∧ Hid (∀ g, u.ownBlock = some g → w2.heap.size ≤ g)) (fun i _ _ => le.length - (intOf i).toNat)
  case atStart => exact ⟨0, Nat.zero_le _, rfl, Below.refl _ _, ⟨rfl, .inl ⟨rfl, rfl⟩⟩, vers.lay (fun g hg => by cases hg)⟩
  case round =>
    obtain ⟨j, hj, rfl, hb, ho, hu⟩ := hrel
    by_cases hlt : j < le.length
    · obtain ⟨_, _, ea, hcell⟩ := row_at (row_below hrow hb)
      injection ea with ea1 _ ea2
      subst ea1 ea2
      obtain ⟨b, rfl, hob, hbl, y0, y1⟩ := hcell j hlt
      clear hcell
      have hdy := vers.lay (filtE_yes (f := upTo ta) hlt)
      have hdn := vers.lay (filtE_no (f := upTo ta) hlt)
      have hfl := filtE_le (upTo ta) le j
      generalize le[j] = x at y0 y1 hdy hdn
      obtain ⟨xs, xl, xA, xc⟩ := x
      simp only [] at y0 y1
      have bX : Below wr.heap.size wr (wr.alloc (.cells #[.string xs, .slice xA xl.length xc] 58)) := (Below.refl _ _).alloc (Nat.le_refl _) _
      have kX := Blk.new wr 58 #[.string xs, .slice xA xl.length xc]
      have hoX := row_below ho bX
      have hbs := hb.size
      have hbX := hb.trans (bX.mono hbs)
      have hwX : Below w.heap.size w _ := b12.trans (hbX.mono b12.size)
      have hcl := floorC_any ta g xs xl xA xc (_) ((hwX.cell (p := ⟨g, 0, none⟩) hgl).trans hg) (Nat.lt_of_lt_of_le hgl hwX.size)
      generalize hWX : wr.alloc (.cells #[.string xs, .slice xA xl.length xc] 58) = WX at *
      have q0 := kX.cell 0
      have q1 := kX.cell 1
      simp only [List.getElem?_toArray, List.getElem?_cons_zero, List.getElem?_cons_succ] at q0 q1
      have lX := kX.lt
      obtain ⟨old, hold⟩ : ∃ old, old = (le.take j).filter fun x => upTo ta x.s := ⟨_, rfl⟩
      rw [← hold] at ho hoX hfl
      have HOLD := vers.lay hold
      have HROW := vers.lay hrow
      clear hold hrow ho hwX
      cases hfx : upTo ta xs with
      | true =>
        rw [hfx] at hcl
        have HD := vers.lay (hdy.out hfx)
        clear hdy hdn hfx
        go_wp2_with (first | (go_at_call 73; refine hcl.mono ?_; rintro e1 w3 ⟨rfl, hb3⟩; have kX3 := kX.below hb3 kX.lt; have ho3 := row_below hoX hb3; have t0 := kX3.cell 0; have t1 := kX3.cell 1; simp only [List.getElem?_toArray, List.getElem?_cons_zero, List.getElem?_cons_succ] at t0 t1; have lX3 := kX3.lt; have hb4 := hbX.trans (hb3.mono hbX.size)) | (at_builtin; refine wp_secret (e := ⟨xs, xl, xA, xc⟩) rfl _ _ rfl ho3 rfl rfl rfl (by omega) ?_; intro v9 w9 ho9 hk9 hv9 hz9))
        refine ⟨⟨j + 1, hlt, by go_num, hb4.trans (hk9.below (fun g hg => hu.out g hg) hb4.size), by rw [HD.out, ← HOLD.out]; exact ho9, vers.lay (fun g hg => (hv9 g hg).elim (fun h => hu.out g h) (fun h => Nat.le_trans hb4.size h.1))⟩, by first | (simp [intOf]; done) | (simp [intOf]; omega) | omega⟩
      | false =>
        rw [hfx] at hcl
        have HD := vers.lay (hdn.out hfx)
        clear hdy hdn hfx
        go_wp2_with (go_at_call 73; refine hcl.mono ?_; rintro e1 w3 ⟨rfl, hb3⟩; have ho3 := row_below hoX hb3; have hb4 := hbX.trans (hb3.mono hbX.size))
        refine ⟨⟨j + 1, hlt, by go_num, hb4, by rw [HD.out, ← HOLD.out]; exact ho3, hu⟩, by first | (simp [intOf]; done) | (simp [intOf]; omega) | omega⟩
    · obtain rfl : j = le.length := by omega
      have HEQ := vers.lay (filtE_pe (upTo ta) le)
      rw [List.take_length] at ho
      obtain ⟨old, hold⟩ : ∃ old, old = le.filter fun x => upTo ta x.s := ⟨_, rfl⟩
      rw [← hold] at ho
      have HOLD := vers.lay hold
      clear hold
      go_wp2_with fail
      refine bodyPost_ret (v := .tuple #[u10, .int .i64 0]) (by simp [results, Try.results66, go_sem]) rfl ⟨b12.trans (hb.mono b12.size), u10, old, rfl, by rw [HOLD.out, HEQ.out, HF.out], ho, fun g hg => Nat.le_trans b12.size (hu.out g hg), fun x hx => ?_⟩
      rw [HOLD.out] at hx
      have h1 := HEL.out x ((List.mem_filter.1 hx).1)
      exact ⟨(h1.1.agree (Agree.of_below hb fun g hg => hg.2)).mono (fun g hg => ⟨hg.1, Nat.lt_of_lt_of_le hg.2 hb.size⟩), h1.2⟩

end Go.Proofs.Ytchghlbiongccaa.trees
