/- What letheref05's LikeAll and letheref06's Like answer. -/
import Derived.Test.YtoenkkbcpafanaaA05
import Derived.Laws.OwnMore


namespace Go.Proofs.Ytoenkkbcpafanaa.nodes
set_option linter.unusedVariables false
set_option linter.unusedSimpArgs false
open Go.RowKit Go.Proofs.Ytoenkkbcpafanaa.base Go.Proofs.Ytoenkkbcpafanaa.quotas Go.Proofs.Ytoenkkbcpafanaa.vers

/-- a secret without the place of its versions -/
def pe (x : E) : ByteArray × List V := (x.s, x.l)
theorem pe_take {es es' : List E} {j : Nat} (h : (es.take j).map pe = (es'.take j).map pe) (hl : j < es.length) (hm : j < es'.length) (e : pe es[j] = pe es'[j]) : (es.take (j + 1)).map pe = (es'.take (j + 1)).map pe := by
  rw [List.take_succ_eq_append_getElem hl, List.take_succ_eq_append_getElem hm, List.map_append, List.map_append, h, List.map_singleton, List.map_singleton, e]
theorem pe_ne {es es' : List E} {j : Nat} (hl : j < es.length) (hm : j < es'.length) (e : pe es[j] ≠ pe es'[j]) : decide (es.map pe = es'.map pe) = false := by
  rw [decide_eq_false_iff_not]
  intro h
  apply e
  have h1 : (es.map pe)[j]? = (es'.map pe)[j]? := by rw [h]
  simpa [hl, hm] using h1
theorem pe_len {es es' : List E} (h : es.length ≠ es'.length) : decide (es.map pe = es'.map pe) = false := by
  rw [decide_eq_false_iff_not]
  intro e
  exact h (by simpa using congrArg List.length e)
theorem pe_eq {x y : E} (h : (decide (x.s = y.s) && decide (x.l = y.l)) = true) : pe x = pe y := by
  simp at h
  unfold pe
  rw [h.1, h.2]
theorem pe_not {x y : E} (h : (decide (x.s = y.s) && decide (x.l = y.l)) = false) : pe x ≠ pe y := by
  intro e
  have h1 : x.s = y.s := congrArg Prod.fst e
  have h2 : x.l = y.l := congrArg Prod.snd e
  rw [decide_eq_true h1, decide_eq_true h2] at h
  cases h
def SHead6 (w : World) (es es' : List E) (x : Value) (wr : World) : Prop := ∃ j : Nat, j ≤ es.length ∧ x = .int .i64 j ∧ Hid ((es.take j).map pe = (es'.take j).map pe) ∧ Below w.heap.size w wr

set_option maxRecDepth 100000 in
set_option maxHeartbeats 1000000 in
theorem likeAll_any (es es' : List E) (A A' : Option Addr) (cap cap' : Nat) (w : World) (hv : Es w w.heap.size es A cap) (hv' : Es w w.heap.size es' A' cap') :
    Calls Try.prog 118 #[.slice A es.length cap, .slice A' es'.length cap'] w fun x w' => x = .returned (.bool (decide (es.map pe = es'.map pe))) ∧ Below w.heap.size w w' := by
  have hlen : es.length ≤ 140737488355328 := by have := hv.2.1; omega
  have hlen' : es'.length ≤ 140737488355328 := by have := hv'.2.1; omega
  by_cases hl : es.length = es'.length
  · go_enter Try.func118, Try.ntmps118
    go_wp2_with fail
    go_loopw [13] (fun x wr => SHead6 w es es' x wr) (fun x _ => es.length - (intOf x).toNat)
    case atStart => exact ⟨0, Nat.zero_le _, rfl, lay rfl, Below.refl _ _⟩
    case round =>
      obtain ⟨j, hj, rfl, hV, hb⟩ := hrel
      by_cases hlt : j < es.length
      · have hlt' : j < es'.length := by omega
        obtain ⟨bk, off, rfl, hbk, e0, e1, hVs⟩ := (hv.below hb).at_ hlt
        obtain ⟨bk', off', rfl, hbk', y0, y1, hVs'⟩ := (hv'.below hb).at_ hlt'
        have k1 : (0 : Int) ≤ (j : Int) := by omega
        have k2 : (j : Int) < (es.length : Int) := by omega
        have k3 : (j : Int) < (es'.length : Int) := by omega
        have hbs := hb.size
        have hD : Below w.heap.size wr wr.drew := (Below.refl _ _).drew
        have hc := like_any es[j].s es'[j].s es[j].l es'[j].l es[j].A es'[j].A es[j].c es'[j].c wr.drew ((hVs.below hD).more hbs) ((hVs'.below hD).more hbs)
        have hyes := lay (fun (hr : (decide (es[j].s = es'[j].s) && decide (es[j].l = es'[j].l)) = true) => pe_take hV.out hlt hlt' (pe_eq hr))
        have hno := lay (fun (hr : (decide (es[j].s = es'[j].s) && decide (es[j].l = es'[j].l)) = false) => (pe_ne hlt hlt' (pe_not hr)).symm)
        generalize hr : (decide (es[j].s = es'[j].s) && decide (es[j].l = es'[j].l)) = r at hc hyes hno
        clear hr hVs hVs'
        generalize es[j].l.length = n1 at e1 hc
        generalize es'[j].l.length = n2 at y1 hc
        go_wp2_with fail
        go_region_held3 (fun w' => w'.cell? ⟨bk, off + j * 2, none⟩ = some (.string es[j].s) ∧ w'.cell? ⟨bk, off + j * 2 + 1, none⟩ = some (.slice es[j].A n1 es[j].c) ∧ w'.cell? ⟨bk', off' + j * 2, none⟩ = some (.string es'[j].s) ∧ w'.cell? ⟨bk', off' + j * 2 + 1, none⟩ = some (.slice es'[j].A n2 es'[j].c))
          (first | go_keep | (go_split_ands; refine ⟨?_, ?_, ?_, ?_⟩ <;> (rw [hb1.cell (by simp; omega)]; assumption)))
          ((go_at_call 171; refine hc.mono ?_; rintro z w1 ⟨rfl, hb1⟩; simp only [World.size_drew] at hb1; have hb2 := hb.trans ((hD.trans (hb1.mono hbs))); have hs1 := hb1.size))
        cases r with
        | true =>
          go_wp2_with fail
          exact ⟨⟨_, _, _, ⟨j + 1, hlt, by go_num, lay (hyes.out (by trivial)), hb2⟩, rfl, rfl, rfl⟩, by simp [intOf]; omega⟩
        | false =>
          go_wp2_with fail
          go_ret
          exact ⟨ret_bool (hno.out (by trivial)), hb2⟩
      · have he : Hid (es.map pe = es'.map pe) := lay (by
          have h1 := hV.out
          rwa [List.take_of_length_le (by omega), List.take_of_length_le (by omega)] at h1)
        go_wp2_with fail
        go_ret
        exact ⟨ret_bool (decide_eq_true he.out).symm, hb⟩
  · have hd : ((es.length : Int) != (es'.length : Int)) = true := by simp; omega
    go_enter Try.func118, Try.ntmps118
    go_wp2_with fail
    all_goals (go_ret; exact ⟨ret_bool (pe_len hl).symm, Below.refl _ _⟩)

/-- a box of the call's own that holds a node -/
def Nb (wr : World) (g : Nat) (lf : Bool) (u u' : Value) : Prop := (wr.cell? ⟨g, 0, none⟩ = some (.bool lf) ∧ wr.cell? ⟨g, 1, none⟩ = some u ∧ wr.cell? ⟨g, 2, none⟩ = some u') ∧ g < wr.heap.size
theorem Nb.new (w : World) (lf : Bool) (u u' : Value) : Nb (w.alloc (.cells #[.bool lf, u, u'] 87)) w.heap.size lf u u' := by
  have k := Blk.new w 87 #[.bool lf, u, u']
  exact ⟨⟨k.cell 0, k.cell 1, k.cell 2⟩, by simp⟩
theorem Nb.next {w w' : World} {g : Nat} {lf : Bool} {u u' : Value} (h : Nb w g lf u u') (hb : Below w.heap.size w w') : Nb w' g lf u u' := by
  obtain ⟨⟨a, b, c⟩, d⟩ := h
  have hs := hb.size
  refine ⟨⟨?_, ?_, ?_⟩, by omega⟩ <;> (rw [hb.cell (by simpa using d)]; assumption)
theorem Nb.alloc {w : World} {g : Nat} {lf : Bool} {u u' : Value} (h : Nb w g lf u u') (ob : Obj) : Nb (w.alloc ob) g lf u u' := h.next ((Below.refl _ _).alloc (Nat.le_refl _) _)
/-- two of them -/
def Nb2 (w : World) (lf lf' : Bool) (u u' v v' : Value) (wr : World) : Prop := Nb wr w.heap.size lf u u' ∧ Nb wr (w.heap.size + 1) lf' v v' ∧ Below w.heap.size w wr
theorem Nb2.new (w : World) (lf lf' : Bool) (u u' v v' : Value) : Nb2 w lf lf' u u' v v' ((w.alloc (.cells #[.bool lf, u, u'] 87)).alloc (.cells #[.bool lf', v, v'] 87)) := by
  have k := Nb.new (w.alloc (.cells #[.bool lf, u, u'] 87)) lf' v v'
  rw [World.size_alloc] at k
  exact ⟨(Nb.new w lf u u').alloc _, k, ((Below.refl _ _).alloc (Nat.le_refl _) _).alloc (by simp) _⟩
theorem Nb2.next {w wr w' : World} {lf lf' : Bool} {u u' v v' : Value} (h : Nb2 w lf lf' u u' v v' wr) (hb : Below wr.heap.size wr w') : Nb2 w lf lf' u u' v v' w' := ⟨h.1.next hb, h.2.1.next hb, h.2.2.trans (hb.mono h.2.2.size)⟩
theorem Nb2.drewN {w wr : World} {lf lf' : Bool} {u u' v v' : Value} (h : Nb2 w lf lf' u u' v v' wr) (n : Nat) : Nb2 w lf lf' u u' v v' (wr.drewN n) := h.next ⟨rfl, rfl, rfl, Nat.le_refl _, fun _ _ => rfl⟩
theorem kk_next {l m : List K} {j : Nat} (h : l.take j = m.take j) (hl : j < l.length) (hm : j < m.length) (e : l[j] = m[j]) : l.take (j + 1) = m.take (j + 1) := by
  rw [List.take_succ_eq_append_getElem hl, List.take_succ_eq_append_getElem hm, h, e]
theorem kk_ne {l m : List K} {j : Nat} (hl : j < l.length) (hm : j < m.length) (e : l[j] ≠ m[j]) : l ≠ m := by
  rintro rfl
  exact e rfl
theorem all_ne {p q : Prop} {l m : List K} [Decidable (p ∧ q ∧ l = m)] (h : l ≠ m) : decide (p ∧ q ∧ l = m) = false := decide_eq_false fun e => h e.2.2
def NHead6 (w : World) (ks ks' : List K) (lf lf' : Bool) (u u' v v' : Value) (x : Value) (wr : World) : Prop := ∃ j : Nat, j ≤ ks.length ∧ x = .int .i64 j ∧ Hid (ks.take j = ks'.take j) ∧ Nb2 w lf lf' u u' v v' wr

set_option maxRecDepth 100000 in
set_option maxHeartbeats 1000000 in
theorem likeN_any (lf lf' : Bool) (es es' : List E) (ks ks' : List K) (A A' : Option Addr) (cap cap' : Nat) (Q Q' : Option Addr) (m m' : Nat) (w : World) (hv : Es w w.heap.size es A cap) (hv' : Es w w.heap.size es' A' cap') (hk : Ks w w.heap.size ks Q m) (hk' : Ks w w.heap.size ks' Q' m') :
    Calls Try.prog 37 #[.agg #[.bool lf, .slice A es.length cap, .slice Q ks.length m], .agg #[.bool lf', .slice A' es'.length cap', .slice Q' ks'.length m']] w fun x w' => x = .returned (.bool (decide (lf = lf' ∧ es.map pe = es'.map pe ∧ ks = ks'))) ∧ Below w.heap.size w w' := by
  have hlen : ks.length ≤ 140737488355328 := by have := hk.2.1; omega
  have hlen' : ks'.length ≤ 140737488355328 := by have := hk'.2.1; omega
  have D0 := Nb2.new w lf lf' (.slice A es.length cap) (.slice Q ks.length m) (.slice A' es'.length cap') (.slice Q' ks'.length m')
  have hc := fun wr (hb : Below w.heap.size w wr) => likeAll_any es es' A A' cap cap' wr (hv.at_world hb) (hv'.at_world hb)
  have HA : Hid (∀ r, decide (es.map pe = es'.map pe) = r → (r = true ↔ es.map pe = es'.map pe)) := lay (fun r h => by rw [← h]; simp)
  have HN : Hid (decide (es.map pe = es'.map pe) = false → decide (lf = lf' ∧ es.map pe = es'.map pe ∧ ks = ks') = false) := lay (fun h => decide_eq_false fun e => of_decide_eq_false h e.2.1)
  have HY : Hid (decide (es.map pe = es'.map pe) = true → es.map pe = es'.map pe) := lay (fun h => of_decide_eq_true h)
  clear HA hv hv'
  generalize decide (es.map pe = es'.map pe) = r at hc HN HY
  generalize es.length = n1 at D0 hc ⊢
  generalize es'.length = n2 at D0 hc ⊢
  by_cases hlf : lf = lf'
  · subst hlf
    by_cases hkl : ks.length = ks'.length
    · have dk : ((ks.length : Int) != (ks'.length : Int)) = false := by simp [hkl]
      have HK := lay hkl
      clear hkl
      go_enter Try.func37, Try.ntmps37
      go_wp2_with fail
      refine (hc _ D0.2.2).mono ?_
      rintro x w1 ⟨rfl, hb1⟩
      have D1 := D0.next hb1
      clear hb1 D0 hc
      obtain ⟨⟨⟨a0, a1, a2⟩, a3⟩, ⟨⟨b0, b1, b2⟩, b3⟩, bb⟩ := id D1
      cases r with
      | false =>
        go_wp2_with fail
        go_ret
        exact ⟨ret_bool (HN.out (by trivial)).symm, bb⟩
      | true =>
        have HE := lay (HY.out rfl)
        clear HY HN
        go_wp2_with fail
        go_loopw [31] (fun x wr => NHead6 w ks ks' lf lf (.slice A n1 cap) (.slice Q ks.length m) (.slice A' n2 cap') (.slice Q' ks'.length m') x wr) (fun x _ => ks.length - (intOf x).toNat)
        case atStart => exact ⟨0, Nat.zero_le _, rfl, lay rfl, D1⟩
        case round =>
          clear D1 a0 a1 a2 a3 b0 b1 b2 b3 bb
          obtain ⟨j, hj, rfl, hV, D2⟩ := hrel
          obtain ⟨⟨⟨a0, a1, a2⟩, a3⟩, ⟨⟨b0, b1, b2⟩, b3⟩, bb⟩ := id D2
          by_cases hlt : j < ks.length
          · have hlt' : j < ks'.length := by have := HK.out; omega
            obtain ⟨bk, off, rfl, hbk, e0, e1, e2, e3, e4⟩ := (hk.below bb).at_ hlt
            obtain ⟨bk', off', rfl, hbk', y0, y1, y2, y3, y4⟩ := (hk'.below bb).at_ hlt'
            have k1 : (0 : Int) ≤ (j : Int) := by omega
            have k2 : (j : Int) < (ks.length : Int) := by omega
            have k3 : (j : Int) < (ks'.length : Int) := by omega
            go_wp2_with fail
            by_cases g0 : ks[j].s = ks'[j].s
            · have d0 := bytes_eq g0
              by_cases g1 : ks[j].k = ks'[j].k
              · have d1 : ((ks[j].k : Int) == (ks'[j].k : Int)) = true := by simp [g1]
                by_cases g2 : ks[j].g = ks'[j].g
                · have d2 : ((ks[j].g : Int) == (ks'[j].g : Int)) = true := by simp [g2]
                  by_cases g3 : ks[j].o = ks'[j].o
                  · have d3 : ((ks[j].o : Int) == (ks'[j].o : Int)) = true := by simp [g3]
                    by_cases g4 : ks[j].n = ks'[j].n
                    · have d4 : ((ks[j].n : Int) == (ks'[j].n : Int)) = true := by simp [g4]
                      have he : Hid (ks[j] = ks'[j]) := lay (by
                        cases hx : ks[j]; cases hy : ks'[j]
                        rw [hx, hy] at g0 g1 g2 g3 g4
                        simp only at g0 g1 g2 g3 g4
                        rw [g0, g1, g2, g3, g4])
                      clear g0 g1 g2 g3 g4
                      go_quiet (fail)
                      go_wp2_with fail
                      exact ⟨⟨j + 1, hlt, by go_num, lay (kk_next hV.out hlt hlt' he.out), D2.drewN _⟩, by simp [intOf]; omega⟩
                    · have d4 : ((ks[j].n : Int) == (ks'[j].n : Int)) = false := beq_eq_false_iff_ne.2 (by omega)
                      have he : Hid (ks[j] ≠ ks'[j]) := lay (fun e => g4 (by rw [e]))
                      clear g0 g1 g2 g3 g4
                      go_quiet (fail)
                      go_wp2_with fail
                      go_ret
                      exact ⟨ret_bool (all_ne (kk_ne hlt hlt' he.out)).symm, (D2.drewN _).2.2⟩
                  · have d3 : ((ks[j].o : Int) == (ks'[j].o : Int)) = false := beq_eq_false_iff_ne.2 (by omega)
                    have he : Hid (ks[j] ≠ ks'[j]) := lay (fun e => g3 (by rw [e]))
                    clear g0 g1 g2 g3
                    go_quiet (fail)
                    go_wp2_with fail
                    go_ret
                    exact ⟨ret_bool (all_ne (kk_ne hlt hlt' he.out)).symm, (D2.drewN _).2.2⟩
                · have d2 : ((ks[j].g : Int) == (ks'[j].g : Int)) = false := beq_eq_false_iff_ne.2 (by omega)
                  have he : Hid (ks[j] ≠ ks'[j]) := lay (fun e => g2 (by rw [e]))
                  clear g0 g1 g2
                  go_quiet (fail)
                  go_wp2_with fail
                  go_ret
                  exact ⟨ret_bool (all_ne (kk_ne hlt hlt' he.out)).symm, (D2.drewN _).2.2⟩
              · have d1 : ((ks[j].k : Int) == (ks'[j].k : Int)) = false := beq_eq_false_iff_ne.2 (by omega)
                have he : Hid (ks[j] ≠ ks'[j]) := lay (fun e => g1 (by rw [e]))
                clear g0 g1
                go_quiet (fail)
                go_wp2_with fail
                go_ret
                exact ⟨ret_bool (all_ne (kk_ne hlt hlt' he.out)).symm, (D2.drewN _).2.2⟩
            · have d0 := bytes_ne g0
              have he : Hid (ks[j] ≠ ks'[j]) := lay (fun e => g0 (by rw [e]))
              clear g0
              go_quiet (fail)
              go_wp2_with fail
              go_ret
              exact ⟨ret_bool (all_ne (kk_ne hlt hlt' he.out)).symm, (D2.drewN _).2.2⟩
          · have he : Hid (ks = ks') := lay (by
              have h1 := hV.out
              rwa [List.take_of_length_le (by omega), List.take_of_length_le (by have := HK.out; omega)] at h1)
            go_wp2_with fail
            go_ret
            exact ⟨ret_bool (decide_eq_true ⟨by trivial, HE.out, he.out⟩).symm, bb⟩
    · have dk : ((ks.length : Int) != (ks'.length : Int)) = true := by simp; omega
      have hne : Hid (ks ≠ ks') := lay (fun e => hkl (by rw [e]))
      clear HN HY hk hk'
      go_enter Try.func37, Try.ntmps37
      go_wp2_with fail
      all_goals (go_ret; exact ⟨ret_bool (all_ne hne.out).symm, D0.2.2⟩)
  · have hne : Hid (lf ≠ lf') := lay hlf
    have dl : (lf != lf') = true := by simpa using hlf
    clear HN HY hk hk' hlf
    go_enter Try.func37, Try.ntmps37
    go_wp2_with fail
    all_goals (go_ret; exact ⟨ret_bool (decide_eq_false fun e => hne.out e.1).symm, D0.2.2⟩)

end Go.Proofs.Ytoenkkbcpafanaa.nodes

/- Memory by blocks: what is read within a set of blocks; rows of a call's own; what is kept but for a set of blocks; nodes in a list; a heap of pages. -/

namespace Go.Proofs.Ytoenkkbcpafanaa.trees
set_option linter.unusedVariables false
set_option linter.unusedSimpArgs false
open Go.RowKit Go.Proofs.Ytoenkkbcpafanaa.base Go.Proofs.Ytoenkkbcpafanaa.vers Go.Proofs.Ytoenkkbcpafanaa.nodes

def Agree (w w' : World) (F : Nat → Prop) : Prop := ∀ g, F g → w'.heap[g]? = w.heap[g]?
section
variable {w w' w2 : World} {F G S : Nat → Prop} {A Q : Option Addr} {xs : List Value} {B : Nat}
theorem Agree.cell (h : Agree w w' F) {p : Addr} (hp : F p.block) : w'.cell? p = w.cell? p := World.cell?_of_block (h _ hp)
theorem Agree.trans (h : Agree w w' F) (k : Agree w' w2 F) : Agree w w2 F := fun g hg => (k g hg).trans (h g hg)
theorem Agree.mono (h : Agree w w' F) (hG : ∀ g, G g → F g) : Agree w w' G := fun g hg => h g (hG g hg)
theorem Agree.of_below (hb : Below B w w') (hF : ∀ g, F g → g < B) : Agree w w' F := fun g hg => hb.block g (hF g hg)
theorem Agree.refl (w : World) (F : Nat → Prop) : Agree w w F := fun _ _ => rfl

/-- a list's cells, within the blocks F -/
def RdF (w : World) (F : Nat → Prop) (A : Option Addr) (xs : List Value) : Prop :=
  ∀ j u, xs[j]? = some u → ∃ b off, A = some ⟨b, off, none⟩ ∧ F b ∧ w.cell? ⟨b, off + j, none⟩ = some u
theorem RdF.nil (w : World) (F : Nat → Prop) (A : Option Addr) : RdF w F A [] := fun j u h => by simp at h
theorem RdF.agree (h : RdF w F A xs) (hk : Agree w w' F) : RdF w' F A xs := fun j u hj => by
  obtain ⟨b, off, e, hb, hc⟩ := h j u hj
  exact ⟨b, off, e, hb, (hk.cell (p := ⟨b, off + j, none⟩) hb).trans hc⟩
theorem RdF.mono (h : RdF w F A xs) (hG : ∀ g, F g → G g) : RdF w G A xs := fun j u hj => by
  obtain ⟨b, off, e, hb, hc⟩ := h j u hj
  exact ⟨b, off, e, hG b hb, hc⟩
theorem RdF.rd (h : RdF w F A xs) : Rd w w.heap.size A xs := fun j u hj => by
  obtain ⟨b, off, e, hb, hc⟩ := h j u hj
  exact ⟨b, off, e, World.block_lt_of_cell? w _ hc, hc⟩
theorem RdF.of_rd (h : Rd w B A xs) : RdF w (fun g => g < B) A xs := h

def VsF (w : World) (F : Nat → Prop) (l : List V) (A : Option Addr) (c : Nat) : Prop := l.length ≤ c ∧ l.length * 40 ≤ 140737488355328 ∧ (A = none → c = 0) ∧ RdF w F A (cellsV l) ∧ ∀ x ∈ l, x.fits
def EsF (w : World) (F : Nat → Prop) (l : List E) (A : Option Addr) (c : Nat) : Prop := l.length ≤ c ∧ l.length * 40 ≤ 140737488355328 ∧ (A = none → c = 0) ∧ RdF w F A (cellsE l) ∧ ∀ x ∈ l, VsF w F x.l x.A x.c ∧ x.s.size ≤ maxLen
def KsF (w : World) (F : Nat → Prop) (l : List K) (A : Option Addr) (c : Nat) : Prop := l.length ≤ c ∧ l.length * 48 ≤ 140737488355328 ∧ (A = none → c = 0) ∧ RdF w F A (cellsK l) ∧ ∀ x ∈ l, x.fits
variable {lv : List V} {le : List E} {lk : List K} {c m : Nat}
theorem VsF.agree (h : VsF w F lv A c) (hk : Agree w w' F) : VsF w' F lv A c := ⟨h.1, h.2.1, h.2.2.1, h.2.2.2.1.agree hk, h.2.2.2.2⟩
theorem VsF.mono (h : VsF w F lv A c) (hG : ∀ g, F g → G g) : VsF w G lv A c := ⟨h.1, h.2.1, h.2.2.1, h.2.2.2.1.mono hG, h.2.2.2.2⟩
theorem VsF.vs (h : VsF w F lv A c) : Vs w w.heap.size lv A c := ⟨h.1, h.2.1, h.2.2.1, h.2.2.2.1.rd, h.2.2.2.2⟩
theorem EsF.agree (h : EsF w F le A c) (hk : Agree w w' F) : EsF w' F le A c := ⟨h.1, h.2.1, h.2.2.1, h.2.2.2.1.agree hk, fun x hx => ⟨(h.2.2.2.2 x hx).1.agree hk, (h.2.2.2.2 x hx).2⟩⟩
theorem EsF.mono (h : EsF w F le A c) (hG : ∀ g, F g → G g) : EsF w G le A c := ⟨h.1, h.2.1, h.2.2.1, h.2.2.2.1.mono hG, fun x hx => ⟨(h.2.2.2.2 x hx).1.mono hG, (h.2.2.2.2 x hx).2⟩⟩
theorem EsF.es (h : EsF w F le A c) : Es w w.heap.size le A c := ⟨h.1, h.2.1, h.2.2.1, h.2.2.2.1.rd, fun x hx => ⟨(h.2.2.2.2 x hx).1.vs, (h.2.2.2.2 x hx).2⟩⟩
theorem EsF.of (h : Es w B le A c) : EsF w (fun g => g < B) le A c := h
theorem KsF.agree (h : KsF w F lk A c) (hk : Agree w w' F) : KsF w' F lk A c := ⟨h.1, h.2.1, h.2.2.1, h.2.2.2.1.agree hk, h.2.2.2.2⟩
theorem KsF.mono (h : KsF w F lk A c) (hG : ∀ g, F g → G g) : KsF w G lk A c := ⟨h.1, h.2.1, h.2.2.1, h.2.2.2.1.mono hG, h.2.2.2.2⟩
theorem KsF.ks (h : KsF w F lk A c) : Ks w w.heap.size lk A c := ⟨h.1, h.2.1, h.2.2.1, h.2.2.2.1.rd, h.2.2.2.2⟩
theorem KsF.of (h : Ks w B lk A c) : KsF w (fun g => g < B) lk A c := h
theorem EsF.nil (w : World) (F : Nat → Prop) : EsF w F [] none 0 := ⟨Nat.le_refl _, by simp, fun _ => rfl, RdF.nil _ _ _, fun x h => by cases h⟩
theorem KsF.nil (w : World) (F : Nat → Prop) : KsF w F [] none 0 := ⟨Nat.le_refl _, by simp, fun _ => rfl, RdF.nil _ _ _, fun x h => by cases h⟩

/-- a row of the call's own, as cells within its block -/
theorem row_rdF {e : TypeId} {k n lo : Nat} {v : Value} (h : w.ownsRow lo e k v n xs) : ∃ A c, v = .slice A n c ∧ n ≤ c ∧ (A = none → c = 0) ∧ RdF w (fun g => v.ownBlock = some g) A xs := by
  obtain ⟨hx, h1⟩ := h
  rcases h1 with ⟨rfl, hn⟩ | ⟨g, cap, cur, rfl, hg, hb, hc, _, hs, ht⟩
  · subst hn
    obtain rfl := List.eq_nil_of_length_eq_zero (show xs.length = 0 by omega)
    exact ⟨none, 0, rfl, Nat.le_refl _, fun _ => rfl, RdF.nil _ _ _⟩
  · refine ⟨_, cap, rfl, hc, (fun e => by cases e), fun j u hj => ⟨g, 0, rfl, rfl, ?_⟩⟩
    rw [Nat.zero_add, Blk.cell (t := e) (cs := cur) hb]
    rw [← ht, List.getElem?_take] at hj
    split at hj
    · simpa using hj
    · cases hj
theorem ownsRow_agree {e : TypeId} {k n lo : Nat} {v : Value} (h : w.ownsRow lo e k v n xs) (hk : ∀ g, v.ownBlock = some g → w'.heap[g]? = w.heap[g]?) : w'.ownsRow lo e k v n xs := by
  obtain ⟨hx, h1⟩ := h
  refine ⟨hx, ?_⟩
  rcases h1 with h1 | ⟨g, cap, cur, rfl, hg, hb, hr⟩
  · exact .inl h1
  · exact .inr ⟨g, cap, cur, rfl, hg, (hk g rfl).trans hb, hr⟩
theorem ownsRow_base {e : TypeId} {k n lo lo' : Nat} {v : Value} (h : w.ownsRow lo e k v n xs) (hk : ∀ g, v.ownBlock = some g → lo' ≤ g) : w.ownsRow lo' e k v n xs := by
  obtain ⟨hx, h1⟩ := h
  refine ⟨hx, ?_⟩
  rcases h1 with h1 | ⟨g, cap, cur, rfl, hg, hb, hr⟩
  · exact .inl h1
  · exact .inr ⟨g, cap, cur, rfl, hk g rfl, hb, hr⟩

theorem row_below {e : TypeId} {k n lo : Nat} {v : Value} (h : w.ownsRow lo e k v n xs) (hb : Below w.heap.size w w') : w'.ownsRow lo e k v n xs := ownsRow_agree h fun g hg => hb.block g (h.lt g hg).2

/-- but for the blocks S all that was there is as it was -/
structure Keep (S : Nat → Prop) (w w' : World) : Prop where
  os : w'.os = w.os
  tape : w'.tape = w.tape
  output : w'.output = w.output
  size : w.heap.size ≤ w'.heap.size
  block : ∀ k, k < w.heap.size → ¬ S k → w'.heap[k]? = w.heap[k]?
theorem Keep.refl (S : Nat → Prop) (w : World) : Keep S w w := ⟨rfl, rfl, rfl, Nat.le_refl _, fun _ _ _ => rfl⟩
theorem Keep.of_below (hb : Below w.heap.size w w') : Keep S w w' := ⟨hb.os, hb.tape, hb.output, hb.size, fun k hk _ => hb.block k hk⟩
theorem Keep.trans {S1 : Nat → Prop} (h : Keep S w w') (k : Keep S1 w' w2) (hS : ∀ g, S1 g → g < w.heap.size → S g) : Keep S w w2 :=
  ⟨k.os.trans h.os, k.tape.trans h.tape, k.output.trans h.output, Nat.le_trans h.size k.size, fun g hg hn => (k.block g (Nat.lt_of_lt_of_le hg h.size) (fun h1 => hn (hS g h1 hg))).trans (h.block g hg hn)⟩
theorem Keep.seq (h : Keep S w w') (hb : Below w'.heap.size w' w2) : Keep S w w2 := h.trans (S1 := S) (Keep.of_below hb) (fun _ h _ => h)
theorem Keep.below (h : Keep S w w') (hS : ∀ g, S g → B ≤ g) (hB : B ≤ w.heap.size) : Below B w w' := ⟨h.os, h.tape, h.output, h.size, fun k hk => h.block k (by omega) (fun hs => by have := hS k hs; omega)⟩
theorem Keep.agree (h : Keep S w w') (hF : ∀ g, F g → g < w.heap.size ∧ ¬ S g) : Agree w w' F := fun g hg => h.block g (hF g hg).1 (hF g hg).2
theorem Keep.mono (h : Keep S w w') (hS : ∀ g, S g → g < w.heap.size → G g) : Keep G w w' := ⟨h.os, h.tape, h.output, h.size, fun k hk hn => h.block k hk (fun hs => hn (hS k hs hk))⟩
theorem Keep.cell (h : Keep S w w') {p : Addr} (hp : p.block < w.heap.size) (hn : ¬ S p.block) : w'.cell? p = w.cell? p := World.cell?_of_block (h.block _ hp hn)
theorem Keep.blk (h : Keep S w w') {g : Nat} {t : TypeId} {cs : Array Value} (hb : Blk w g t cs) (hn : ¬ S g) : Blk w' g t cs := (h.block g hb.lt hn).trans hb

/-! ### secrets and kids of a call's own -/
/-- versions in a row of their own, in a block of F -/
def OwnVF (w : World) (F : Nat → Prop) (x : E) : Prop := w.ownsRow 0 180 3 (.slice x.A x.l.length x.c) x.l.length (cellsV x.l) ∧ x.l.length * 40 ≤ 140737488355328 ∧ (∀ y ∈ x.l, y.fits) ∧ ∀ g, (Value.slice x.A x.l.length x.c).ownBlock = some g → F g
theorem OwnVF.agree {x : E} (h : OwnVF w F x) (hk : Agree w w' F) : OwnVF w' F x := ⟨ownsRow_agree h.1 (fun g hg => hk g (h.2.2.2 g hg)), h.2⟩
theorem OwnVF.mono {x : E} (h : OwnVF w F x) (hG : ∀ g, F g → G g) : OwnVF w G x := ⟨h.1, h.2.1, h.2.2.1, fun g hg => hG g (h.2.2.2 g hg)⟩
theorem OwnVF.vs {x : E} (h : OwnVF w F x) : VsF w F x.l x.A x.c := by
  obtain ⟨A, c, e, hc, hn, hr⟩ := row_rdF h.1
  injection e with e1 _ e2
  subst e1 e2
  exact ⟨hc, h.2.1, hn, hr.mono h.2.2.2, h.2.2.1⟩
/-- secrets in a row of their own, each one's versions in another -/
def OwnEF (w : World) (F : Nat → Prop) (l : List E) (v : Value) : Prop := w.ownsRow 0 47 2 v l.length (cellsE l) ∧ l.length * 40 ≤ 140737488355328 ∧ (∀ g, v.ownBlock = some g → F g) ∧ ∀ x ∈ l, OwnVF w (fun g => F g ∧ some g ≠ v.ownBlock) x ∧ x.s.size ≤ maxLen
theorem OwnEF.agree {v : Value} (h : OwnEF w F le v) (hk : Agree w w' F) : OwnEF w' F le v := ⟨ownsRow_agree h.1 (fun g hg => hk g (h.2.2.1 g hg)), h.2.1, h.2.2.1, fun x hx => ⟨(h.2.2.2 x hx).1.agree (hk.mono fun _ hg => hg.1), (h.2.2.2 x hx).2⟩⟩
theorem OwnEF.mono {v : Value} (h : OwnEF w F le v) (hG : ∀ g, F g → G g) : OwnEF w G le v := ⟨h.1, h.2.1, fun g hg => hG g (h.2.2.1 g hg), fun x hx => ⟨(h.2.2.2 x hx).1.mono fun g hg => ⟨hG g hg.1, hg.2⟩, (h.2.2.2 x hx).2⟩⟩
theorem OwnEF.es {v : Value} (h : OwnEF w F le v) : ∃ A c, v = .slice A le.length c ∧ EsF w F le A c := by
  obtain ⟨A, c, e, hc, hn, hr⟩ := row_rdF h.1
  exact ⟨A, c, e, hc, h.2.1, hn, hr.mono h.2.2.1, fun x hx => ⟨(h.2.2.2 x hx).1.vs.mono fun _ hg => hg.1, (h.2.2.2 x hx).2⟩⟩
def OwnKF (w : World) (F : Nat → Prop) (l : List K) (v : Value) : Prop := w.ownsRow 0 162 5 v l.length (cellsK l) ∧ l.length * 48 ≤ 140737488355328 ∧ (∀ g, v.ownBlock = some g → F g) ∧ ∀ x ∈ l, x.fits
theorem OwnKF.agree {v : Value} (h : OwnKF w F lk v) (hk : Agree w w' F) : OwnKF w' F lk v := ⟨ownsRow_agree h.1 (fun g hg => hk g (h.2.2.1 g hg)), h.2⟩
theorem OwnKF.mono {v : Value} (h : OwnKF w F lk v) (hG : ∀ g, F g → G g) : OwnKF w G lk v := ⟨h.1, h.2.1, fun g hg => hG g (h.2.2.1 g hg), h.2.2.2⟩
theorem OwnKF.ks {v : Value} (h : OwnKF w F lk v) : ∃ A c, v = .slice A lk.length c ∧ KsF w F lk A c := by
  obtain ⟨A, c, e, hc, hn, hr⟩ := row_rdF h.1
  exact ⟨A, c, e, hc, h.2.1, hn, hr.mono h.2.2.1, h.2.2.2⟩
end

theorem cellsE_one (l : List E) : ∀ u ∈ cellsE l, u.oneCell' = true := by
  induction l with
  | nil => intro u h; cases h
  | cons x l ih =>
    intro u h
    rcases List.mem_append.1 h with h | h
    · simp [E.cells] at h
      rcases h with rfl | rfl <;> rfl
    · exact ih u h
/-! ### nodes -/
/-- a node, but for where it lies -/
abbrev P3 := Bool × List (ByteArray × List V) × List K
structure N where
  lf : Bool
  es : List E
  ks : List K
  A : Option Addr
  c : Nat
  Q : Option Addr
  m : Nat
def N.cells (x : N) : List Value := [.bool x.lf, .slice x.A x.es.length x.c, .slice x.Q x.ks.length x.m]
abbrev N.val (x : N) : Value := .agg #[.bool x.lf, .slice x.A x.es.length x.c, .slice x.Q x.ks.length x.m]
def N.p (x : N) : P3 := (x.lf, x.es.map pe, x.ks)
def cellsN : List N → List Value
  | [] => []
  | x :: l => x.cells ++ cellsN l
theorem cellsN_len : ∀ l : List N, (cellsN l).length = 3 * l.length
  | [] => rfl
  | x :: l => by rw [cellsN, List.length_append, cellsN_len l]; simp [N.cells]; omega
theorem cellsN_app : ∀ l m : List N, cellsN (l ++ m) = cellsN l ++ cellsN m
  | [], m => rfl
  | x :: l, m => by rw [List.cons_append, cellsN, cellsN_app l m, cellsN, List.append_assoc]
theorem cellsN_at : ∀ (l : List N) {j : Nat} (hj : j < l.length), (cellsN l)[3 * j]? = some (.bool l[j].lf) ∧ (cellsN l)[3 * j + 1]? = some (.slice l[j].A l[j].es.length l[j].c) ∧ (cellsN l)[3 * j + 2]? = some (.slice l[j].Q l[j].ks.length l[j].m)
  | x :: l, 0, _ => ⟨rfl, rfl, rfl⟩
  | x :: l, j + 1, hj => by
    obtain ⟨e0, e1, e2⟩ := cellsN_at l (j := j) (by simpa using hj)
    have hl : x.cells.length = 3 := rfl
    refine ⟨?_, ?_, ?_⟩
    all_goals
      rw [cellsN, List.getElem?_append_right (by rw [hl]; omega), hl]
      first | rw [show 3 * (j + 1) - 3 = 3 * j by omega] | rw [show 3 * (j + 1) + 1 - 3 = 3 * j + 1 by omega] | rw [show 3 * (j + 1) + 2 - 3 = 3 * j + 2 by omega]
      assumption
theorem cellsN_one (l : List N) : ∀ u ∈ cellsN l, u.oneCell' = true := by
  induction l with
  | nil => intro u h; cases h
  | cons x l ih =>
    intro u h
    rcases List.mem_append.1 h with h | h
    · simp [N.cells] at h
      rcases h with rfl | rfl | rfl <;> rfl
    · exact ih u h
def NsF (w : World) (F : Nat → Prop) (x : N) : Prop := EsF w F x.es x.A x.c ∧ KsF w F x.ks x.Q x.m
theorem NsF.agree {w w' : World} {F : Nat → Prop} {x : N} (h : NsF w F x) (hk : Agree w w' F) : NsF w' F x := ⟨h.1.agree hk, h.2.agree hk⟩
theorem NsF.mono {w : World} {F G : Nat → Prop} {x : N} (h : NsF w F x) (hG : ∀ g, F g → G g) : NsF w G x := ⟨h.1.mono hG, h.2.mono hG⟩
/-- a node of the call's own -/
def OwnNF (w : World) (F : Nat → Prop) (x : N) : Prop := OwnEF w F x.es (.slice x.A x.es.length x.c) ∧ OwnKF w F x.ks (.slice x.Q x.ks.length x.m) ∧ ∀ g, (Value.slice x.A x.es.length x.c).ownBlock = some g → (Value.slice x.Q x.ks.length x.m).ownBlock ≠ some g
theorem OwnNF.agree {w w' : World} {F : Nat → Prop} {x : N} (h : OwnNF w F x) (hk : Agree w w' F) : OwnNF w' F x := ⟨h.1.agree hk, h.2.1.agree hk, h.2.2⟩
theorem OwnNF.mono {w : World} {F G : Nat → Prop} {x : N} (h : OwnNF w F x) (hG : ∀ g, F g → G g) : OwnNF w G x := ⟨h.1.mono hG, h.2.1.mono hG, h.2.2⟩
theorem OwnNF.ns {w : World} {F : Nat → Prop} {x : N} (h : OwnNF w F x) : NsF w F x := by
  obtain ⟨A, c, e, he⟩ := h.1.es
  obtain ⟨Q, m, e', hk⟩ := h.2.1.ks
  injection e with e1 _ e2
  injection e' with e3 _ e4
  subst e1 e2 e3 e4
  exact ⟨he, hk⟩

/-! ### a heap of pages -/
/-- block h is a heap of the pages ns; S: the blocks that it stands in -/
def Hp (w : World) (h : Nat) (S : Nat → Prop) (ns : List P3) : Prop :=
  ∃ v l, ns = l.map N.p ∧ S h ∧ (∀ g, S g → g < w.heap.size) ∧ Blk w h 146 #[v] ∧ w.ownsRow 0 87 3 v l.length (cellsN l) ∧ (∀ g, v.ownBlock = some g → S g ∧ g ≠ h) ∧ l.length ≤ 20000 ∧
    ∀ x ∈ l, NsF w (fun g => S g ∧ g ≠ h ∧ some g ≠ v.ownBlock) x
theorem Hp.agree {w w' : World} {h : Nat} {S : Nat → Prop} {ns : List P3} (hh : Hp w h S ns) (hk : Agree w w' S) (hs : w.heap.size ≤ w'.heap.size) : Hp w' h S ns := by
  obtain ⟨v, l, h1, h2, h3, h4, h5, h6, h7, h8⟩ := hh
  exact ⟨v, l, h1, h2, fun g hg => Nat.lt_of_lt_of_le (h3 g hg) hs, (hk h h2).trans h4, ownsRow_agree h5 (fun g hg => hk g (h6 g hg).1), h6, h7, fun x hx => (h8 x hx).agree (hk.mono fun g hg => hg.1)⟩
theorem Hp.lt {w : World} {h : Nat} {S : Nat → Prop} {ns : List P3} (hh : Hp w h S ns) : ∀ g, S g → g < w.heap.size := by
  obtain ⟨v, l, h1, h2, h3, _⟩ := hh
  exact h3
theorem Hp.below {w w' : World} {h : Nat} {S : Nat → Prop} {ns : List P3} (hh : Hp w h S ns) (hb : Below w.heap.size w w') : Hp w' h S ns := hh.agree (Agree.of_below hb hh.lt) hb.size
theorem Hp.len {w : World} {h : Nat} {S : Nat → Prop} {ns : List P3} (hh : Hp w h S ns) : ns.length ≤ 20000 := by
  obtain ⟨v, l, rfl, _, _, _, _, _, h7, _⟩ := hh
  simpa using h7
end Go.Proofs.Ytoenkkbcpafanaa.trees
