/- What letheref05's LikeAll and letheref06's Like answer. -/
import Derived.Test.YtoenkkbcpafanaaNdC
import Derived.Test.YtoenkkbcpafanaaVerE


namespace Go.Proofs.Ytoenkkbcpafanaa.nodes
set_option linter.unusedVariables false
set_option linter.unusedSimpArgs false
open Go.RowKit Go.Proofs.Ytoenkkbcpafanaa.base Go.Proofs.Ytoenkkbcpafanaa.quotas Go.Proofs.Ytoenkkbcpafanaa.vers

/-- a secret without the place of its versions -/
def pe (x : E) : ByteArray × List V := (x.s, x.l)
theorem pe_take {es es' : List E} {j : Nat} (h : (es.take j).map pe = (es'.take j).map pe) (hl : j < es.length) (hm : j < es'.length) (e : pe es[j] = pe es'[j]) : (es.take (j + 1)).map pe = (es'.take (j + 1)).map pe := by
  rw [List.take_succ_eq_append_getElem hl, List.take_succ_eq_append_getElem hm, List.map_append, List.map_append, h, List.map_singleton, List.map_singleton, e]
theorem pe_ne {es es' : List E} {j : Nat} (hl : j < es.length) (hm : j < es'.length) (e : pe es[j] ≠ pe es'[j]) : decide (es.map pe = es'.map pe) = false := by
  rw [decide_eq_false_iff_not]
  intro h
  apply e
  have h1 : (es.map pe)[j]? = (es'.map pe)[j]? := by rw [h]
  simpa [hl, hm] using h1
theorem pe_len {es es' : List E} (h : es.length ≠ es'.length) : decide (es.map pe = es'.map pe) = false := by
  rw [decide_eq_false_iff_not]
  intro e
  exact h (by simpa using congrArg List.length e)
theorem pe_eq {x y : E} (h : (decide (x.s = y.s) && decide (x.l = y.l)) = true) : pe x = pe y := by
  simp at h
  unfold pe
  rw [h.1, h.2]
theorem pe_not {x y : E} (h : (decide (x.s = y.s) && decide (x.l = y.l)) = false) : pe x ≠ pe y := by
  intro e
  have h1 : x.s = y.s := congrArg Prod.fst e
  have h2 : x.l = y.l := congrArg Prod.snd e
  rw [decide_eq_true h1, decide_eq_true h2] at h
  cases h
def SHead6 (w : World) (es es' : List E) (x : Value) (wr : World) : Prop := ∃ j : Nat, j ≤ es.length ∧ x = .int .i64 j ∧ Hid ((es.take j).map pe = (es'.take j).map pe) ∧ Below w.heap.size w wr

set_option maxRecDepth 100000 in
set_option maxHeartbeats 1000000 in
theorem likeAll_any (es es' : List E) (A A' : Option Addr) (cap cap' : Nat) (w : World) (hv : Es w w.heap.size es A cap) (hv' : Es w w.heap.size es' A' cap') :
    Calls Try.prog 118 #[.slice A es.length cap, .slice A' es'.length cap'] w fun x w' => x = .returned (.bool (decide (es.map pe = es'.map pe))) ∧ Below w.heap.size w w' := by
  have hlen : es.length ≤ 140737488355328 := by have := hv.2.1; omega
  have hlen' : es'.length ≤ 140737488355328 := by have := hv'.2.1; omega
  by_cases hl : es.length = es'.length
  · go_enter Try.func118, Try.ntmps118
    go_wp2_with fail
    go_loopw [13] (fun x wr => SHead6 w es es' x wr) (fun x _ => es.length - (intOf x).toNat)
    case atStart => exact ⟨0, Nat.zero_le _, rfl, lay rfl, Below.refl _ _⟩
    case round =>
      obtain ⟨j, hj, rfl, hV, hb⟩ := hrel
      by_cases hlt : j < es.length
      · have hlt' : j < es'.length := by omega
        obtain ⟨bk, off, rfl, hbk, e0, e1, hVs⟩ := (hv.below hb).at_ hlt
        obtain ⟨bk', off', rfl, hbk', y0, y1, hVs'⟩ := (hv'.below hb).at_ hlt'
        have k1 : (0 : Int) ≤ (j : Int) := by omega
        have k2 : (j : Int) < (es.length : Int) := by omega
        have k3 : (j : Int) < (es'.length : Int) := by omega
        have hbs := hb.size
        have hD : Below w.heap.size wr wr.drew := (Below.refl _ _).drew
        have hc := like_any es[j].s es'[j].s es[j].l es'[j].l es[j].A es'[j].A es[j].c es'[j].c wr.drew ((hVs.below hD).more hbs) ((hVs'.below hD).more hbs)
        have hyes := lay (fun (hr : (decide (es[j].s = es'[j].s) && decide (es[j].l = es'[j].l)) = true) => pe_take hV.out hlt hlt' (pe_eq hr))
        have hno := lay (fun (hr : (decide (es[j].s = es'[j].s) && decide (es[j].l = es'[j].l)) = false) => (pe_ne hlt hlt' (pe_not hr)).symm)
        generalize hr : (decide (es[j].s = es'[j].s) && decide (es[j].l = es'[j].l)) = r at hc hyes hno
        clear hr hVs hVs'
        generalize es[j].l.length = n1 at e1 hc
        generalize es'[j].l.length = n2 at y1 hc
        go_wp2_with fail
        go_region_held3 (fun w' => w'.cell? ⟨bk, off + j * 2, none⟩ = some (.string es[j].s) ∧ w'.cell? ⟨bk, off + j * 2 + 1, none⟩ = some (.slice es[j].A n1 es[j].c) ∧ w'.cell? ⟨bk', off' + j * 2, none⟩ = some (.string es'[j].s) ∧ w'.cell? ⟨bk', off' + j * 2 + 1, none⟩ = some (.slice es'[j].A n2 es'[j].c))
          (first | go_keep | (go_split_ands; refine ⟨?_, ?_, ?_, ?_⟩ <;> (rw [hb1.cell (by simp; omega)]; assumption)))
          ((go_at_call 171; refine hc.mono ?_; rintro z w1 ⟨rfl, hb1⟩; simp only [World.size_drew] at hb1; have hb2 := hb.trans ((hD.trans (hb1.mono hbs))); have hs1 := hb1.size))
        cases r with
        | true =>
          go_wp2_with fail
          exact ⟨⟨_, _, _, ⟨j + 1, hlt, by go_num, lay (hyes.out (by trivial)), hb2⟩, rfl, rfl, rfl⟩, by simp [intOf]; omega⟩
        | false =>
          go_wp2_with fail
          go_ret
          exact ⟨ret_bool (hno.out (by trivial)), hb2⟩
      · have he : Hid (es.map pe = es'.map pe) := lay (by
          have h1 := hV.out
          rwa [List.take_of_length_le (by omega), List.take_of_length_le (by omega)] at h1)
        go_wp2_with fail
        go_ret
        exact ⟨ret_bool (decide_eq_true he.out).symm, hb⟩
  · have hd : ((es.length : Int) != (es'.length : Int)) = true := by simp; omega
    go_enter Try.func118, Try.ntmps118
    go_wp2_with fail
    all_goals (go_ret; exact ⟨ret_bool (pe_len hl).symm, Below.refl _ _⟩)

/-- a box of the call's own that holds a node -/
def Nb (wr : World) (g : Nat) (lf : Bool) (u u' : Value) : Prop := (wr.cell? ⟨g, 0, none⟩ = some (.bool lf) ∧ wr.cell? ⟨g, 1, none⟩ = some u ∧ wr.cell? ⟨g, 2, none⟩ = some u') ∧ g < wr.heap.size
theorem Nb.new (w : World) (lf : Bool) (u u' : Value) : Nb (w.alloc (.cells #[.bool lf, u, u'] 87)) w.heap.size lf u u' := by
  have k := Blk.new w 87 #[.bool lf, u, u']
  exact ⟨⟨k.cell 0, k.cell 1, k.cell 2⟩, by simp⟩
theorem Nb.next {w w' : World} {g : Nat} {lf : Bool} {u u' : Value} (h : Nb w g lf u u') (hb : Below w.heap.size w w') : Nb w' g lf u u' := by
  obtain ⟨⟨a, b, c⟩, d⟩ := h
  have hs := hb.size
  refine ⟨⟨?_, ?_, ?_⟩, by omega⟩ <;> (rw [hb.cell (by simpa using d)]; assumption)
theorem Nb.alloc {w : World} {g : Nat} {lf : Bool} {u u' : Value} (h : Nb w g lf u u') (ob : Obj) : Nb (w.alloc ob) g lf u u' := h.next ((Below.refl _ _).alloc (Nat.le_refl _) _)
/-- two of them -/
def Nb2 (w : World) (lf lf' : Bool) (u u' v v' : Value) (wr : World) : Prop := Nb wr w.heap.size lf u u' ∧ Nb wr (w.heap.size + 1) lf' v v' ∧ Below w.heap.size w wr
theorem Nb2.new (w : World) (lf lf' : Bool) (u u' v v' : Value) : Nb2 w lf lf' u u' v v' ((w.alloc (.cells #[.bool lf, u, u'] 87)).alloc (.cells #[.bool lf', v, v'] 87)) := by
  have k := Nb.new (w.alloc (.cells #[.bool lf, u, u'] 87)) lf' v v'
  rw [World.size_alloc] at k
  exact ⟨(Nb.new w lf u u').alloc _, k, ((Below.refl _ _).alloc (Nat.le_refl _) _).alloc (by simp) _⟩
theorem Nb2.next {w wr w' : World} {lf lf' : Bool} {u u' v v' : Value} (h : Nb2 w lf lf' u u' v v' wr) (hb : Below wr.heap.size wr w') : Nb2 w lf lf' u u' v v' w' := ⟨h.1.next hb, h.2.1.next hb, h.2.2.trans (hb.mono h.2.2.size)⟩
theorem Nb2.drewN {w wr : World} {lf lf' : Bool} {u u' v v' : Value} (h : Nb2 w lf lf' u u' v v' wr) (n : Nat) : Nb2 w lf lf' u u' v v' (wr.drewN n) := h.next ⟨rfl, rfl, rfl, Nat.le_refl _, fun _ _ => rfl⟩
theorem kk_next {l m : List K} {j : Nat} (h : l.take j = m.take j) (hl : j < l.length) (hm : j < m.length) (e : l[j] = m[j]) : l.take (j + 1) = m.take (j + 1) := by
  rw [List.take_succ_eq_append_getElem hl, List.take_succ_eq_append_getElem hm, h, e]
theorem kk_ne {l m : List K} {j : Nat} (hl : j < l.length) (hm : j < m.length) (e : l[j] ≠ m[j]) : l ≠ m := by
  rintro rfl
  exact e rfl
theorem all_ne {p q : Prop} {l m : List K} [Decidable (p ∧ q ∧ l = m)] (h : l ≠ m) : decide (p ∧ q ∧ l = m) = false := decide_eq_false fun e => h e.2.2
def NHead6 (w : World) (ks ks' : List K) (lf lf' : Bool) (u u' v v' : Value) (x : Value) (wr : World) : Prop := ∃ j : Nat, j ≤ ks.length ∧ x = .int .i64 j ∧ Hid (ks.take j = ks'.take j) ∧ Nb2 w lf lf' u u' v v' wr

set_option maxRecDepth 100000 in
set_option maxHeartbeats 1000000 in
theorem likeN_any (lf lf' : Bool) (es es' : List E) (ks ks' : List K) (A A' : Option Addr) (cap cap' : Nat) (Q Q' : Option Addr) (m m' : Nat) (w : World) (hv : Es w w.heap.size es A cap) (hv' : Es w w.heap.size es' A' cap') (hk : Ks w w.heap.size ks Q m) (hk' : Ks w w.heap.size ks' Q' m') :
    Calls Try.prog 37 #[.agg #[.bool lf, .slice A es.length cap, .slice Q ks.length m], .agg #[.bool lf', .slice A' es'.length cap', .slice Q' ks'.length m']] w fun x w' => x = .returned (.bool (decide (lf = lf' ∧ es.map pe = es'.map pe ∧ ks = ks'))) ∧ Below w.heap.size w w' := by
  have hlen : ks.length ≤ 140737488355328 := by have := hk.2.1; omega
  have hlen' : ks'.length ≤ 140737488355328 := by have := hk'.2.1; omega
  have D0 := Nb2.new w lf lf' (.slice A es.length cap) (.slice Q ks.length m) (.slice A' es'.length cap') (.slice Q' ks'.length m')
  have hc := fun wr (hb : Below w.heap.size w wr) => likeAll_any es es' A A' cap cap' wr (hv.at_world hb) (hv'.at_world hb)
  have HA : Hid (∀ r, decide (es.map pe = es'.map pe) = r → (r = true ↔ es.map pe = es'.map pe)) := lay (fun r h => by rw [← h]; simp)
  have HN : Hid (decide (es.map pe = es'.map pe) = false → decide (lf = lf' ∧ es.map pe = es'.map pe ∧ ks = ks') = false) := lay (fun h => decide_eq_false fun e => of_decide_eq_false h e.2.1)
  have HY : Hid (decide (es.map pe = es'.map pe) = true → es.map pe = es'.map pe) := lay (fun h => of_decide_eq_true h)
  clear HA hv hv'
  generalize decide (es.map pe = es'.map pe) = r at hc HN HY
  generalize es.length = n1 at D0 hc ⊢
  generalize es'.length = n2 at D0 hc ⊢
  by_cases hlf : lf = lf'
  · subst hlf
    by_cases hkl : ks.length = ks'.length
    · have dk : ((ks.length : Int) != (ks'.length : Int)) = false := by simp [hkl]
      have HK := lay hkl
      clear hkl
      go_enter Try.func37, Try.ntmps37
      go_wp2_with fail
      refine (hc _ D0.2.2).mono ?_
      rintro x w1 ⟨rfl, hb1⟩
      have D1 := D0.next hb1
      clear hb1 D0 hc
      obtain ⟨⟨⟨a0, a1, a2⟩, a3⟩, ⟨⟨b0, b1, b2⟩, b3⟩, bb⟩ := id D1
      cases r with
      | false =>
        go_wp2_with fail
        go_ret
        exact ⟨ret_bool (HN.out (by trivial)).symm, bb⟩
      | true =>
        have HE := lay (HY.out rfl)
        clear HY HN
        go_wp2_with fail
        go_loopw [31] (fun x wr => NHead6 w ks ks' lf lf (.slice A n1 cap) (.slice Q ks.length m) (.slice A' n2 cap') (.slice Q' ks'.length m') x wr) (fun x _ => ks.length - (intOf x).toNat)
        case atStart => exact ⟨0, Nat.zero_le _, rfl, lay rfl, D1⟩
        case round =>
          clear D1 a0 a1 a2 a3 b0 b1 b2 b3 bb
          obtain ⟨j, hj, rfl, hV, D2⟩ := hrel
          obtain ⟨⟨⟨a0, a1, a2⟩, a3⟩, ⟨⟨b0, b1, b2⟩, b3⟩, bb⟩ := id D2
          by_cases hlt : j < ks.length
          · have hlt' : j < ks'.length := by have := HK.out; omega
            obtain ⟨bk, off, rfl, hbk, e0, e1, e2, e3, e4⟩ := (hk.below bb).at_ hlt
            obtain ⟨bk', off', rfl, hbk', y0, y1, y2, y3, y4⟩ := (hk'.below bb).at_ hlt'
            have k1 : (0 : Int) ≤ (j : Int) := by omega
            have k2 : (j : Int) < (ks.length : Int) := by omega
            have k3 : (j : Int) < (ks'.length : Int) := by omega
            go_wp2_with fail
            by_cases g0 : ks[j].s = ks'[j].s
            · have d0 := bytes_eq g0
              by_cases g1 : ks[j].k = ks'[j].k
              · have d1 : ((ks[j].k : Int) == (ks'[j].k : Int)) = true := by simp [g1]
                by_cases g2 : ks[j].g = ks'[j].g
                · have d2 : ((ks[j].g : Int) == (ks'[j].g : Int)) = true := by simp [g2]
                  by_cases g3 : ks[j].o = ks'[j].o
                  · have d3 : ((ks[j].o : Int) == (ks'[j].o : Int)) = true := by simp [g3]
                    by_cases g4 : ks[j].n = ks'[j].n
                    · have d4 : ((ks[j].n : Int) == (ks'[j].n : Int)) = true := by simp [g4]
                      have he : Hid (ks[j] = ks'[j]) := lay (by
                        cases hx : ks[j]; cases hy : ks'[j]
                        rw [hx, hy] at g0 g1 g2 g3 g4
                        simp only at g0 g1 g2 g3 g4
                        rw [g0, g1, g2, g3, g4])
                      clear g0 g1 g2 g3 g4
                      go_quiet (fail)
                      go_wp2_with fail
                      exact ⟨⟨j + 1, hlt, by go_num, lay (kk_next hV.out hlt hlt' he.out), D2.drewN _⟩, by simp [intOf]; omega⟩
                    · have d4 : ((ks[j].n : Int) == (ks'[j].n : Int)) = false := beq_eq_false_iff_ne.2 (by omega)
                      have he : Hid (ks[j] ≠ ks'[j]) := lay (fun e => g4 (by rw [e]))
                      clear g0 g1 g2 g3 g4
                      go_quiet (fail)
                      go_wp2_with fail
                      go_ret
                      exact ⟨ret_bool (all_ne (kk_ne hlt hlt' he.out)).symm, (D2.drewN _).2.2⟩
                  · have d3 : ((ks[j].o : Int) == (ks'[j].o : Int)) = false := beq_eq_false_iff_ne.2 (by omega)
                    have he : Hid (ks[j] ≠ ks'[j]) := lay (fun e => g3 (by rw [e]))
                    clear g0 g1 g2 g3
                    go_quiet (fail)
                    go_wp2_with fail
                    go_ret
                    exact ⟨ret_bool (all_ne (kk_ne hlt hlt' he.out)).symm, (D2.drewN _).2.2⟩
                · have d2 : ((ks[j].g : Int) == (ks'[j].g : Int)) = false := beq_eq_false_iff_ne.2 (by omega)
                  have he : Hid (ks[j] ≠ ks'[j]) := lay (fun e => g2 (by rw [e]))
                  clear g0 g1 g2
                  go_quiet (fail)
                  go_wp2_with fail
                  go_ret
                  exact ⟨ret_bool (all_ne (kk_ne hlt hlt' he.out)).symm, (D2.drewN _).2.2⟩
              · have d1 : ((ks[j].k : Int) == (ks'[j].k : Int)) = false := beq_eq_false_iff_ne.2 (by omega)
                have he : Hid (ks[j] ≠ ks'[j]) := lay (fun e => g1 (by rw [e]))
                clear g0 g1
                go_quiet (fail)
                go_wp2_with fail
                go_ret
                exact ⟨ret_bool (all_ne (kk_ne hlt hlt' he.out)).symm, (D2.drewN _).2.2⟩
            · have d0 := bytes_ne g0
              have he : Hid (ks[j] ≠ ks'[j]) := lay (fun e => g0 (by rw [e]))
              clear g0
              go_quiet (fail)
              go_wp2_with fail
              go_ret
              exact ⟨ret_bool (all_ne (kk_ne hlt hlt' he.out)).symm, (D2.drewN _).2.2⟩
          · have he : Hid (ks = ks') := lay (by
              have h1 := hV.out
              rwa [List.take_of_length_le (by omega), List.take_of_length_le (by have := HK.out; omega)] at h1)
            go_wp2_with fail
            go_ret
            exact ⟨ret_bool (decide_eq_true ⟨by trivial, HE.out, he.out⟩).symm, bb⟩
    · have dk : ((ks.length : Int) != (ks'.length : Int)) = true := by simp; omega
      have hne : Hid (ks ≠ ks') := lay (fun e => hkl (by rw [e]))
      clear HN HY hk hk'
      go_enter Try.func37, Try.ntmps37
      go_wp2_with fail
      all_goals (go_ret; exact ⟨ret_bool (all_ne hne.out).symm, D0.2.2⟩)
  · have hne : Hid (lf ≠ lf') := lay hlf
    have dl : (lf != lf') = true := by simpa using hlf
    clear HN HY hk hk' hlf
    go_enter Try.func37, Try.ntmps37
    go_wp2_with fail
    all_goals (go_ret; exact ⟨ret_bool (decide_eq_false fun e => hne.out e.1).symm, D0.2.2⟩)

end Go.Proofs.Ytoenkkbcpafanaa.nodes
