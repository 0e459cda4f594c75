/- What letheref05's LikeAll and letheref06's Like answer. -/
import Derived.Test.YtblfacodfmbodaaNdC
import Derived.Test.YtblfacodfmbodaaVerE


namespace Go.Proofs.Ytblfacodfmbodaa.nodes
set_option linter.unusedVariables false
set_option linter.unusedSimpArgs false
open Go.RowKit Go.Proofs.Ytblfacodfmbodaa.base Go.Proofs.Ytblfacodfmbodaa.quotas Go.Proofs.Ytblfacodfmbodaa.vers

/-- a secret without the place of its versions -/
def pe (x : E) : ByteArray × List V := (x.s, x.l)
theorem pe_take {es es' : List E} {j : Nat} (h : (es.take j).map pe = (es'.take j).map pe) (hl : j < es.length) (hm : j < es'.length) (e : pe es[j] = pe es'[j]) : (es.take (j + 1)).map pe = (es'.take (j + 1)).map pe := by
  rw [List.take_succ_eq_append_getElem hl, List.take_succ_eq_append_getElem hm, List.map_append, List.map_append, h, List.map_singleton, List.map_singleton, e]
theorem pe_ne {es es' : List E} {j : Nat} (hl : j < es.length) (hm : j < es'.length) (e : pe es[j] ≠ pe es'[j]) : decide (es.map pe = es'.map pe) = false := by
  rw [decide_eq_false_iff_not]
  intro h
  apply e
  have h1 : (es.map pe)[j]? = (es'.map pe)[j]? := by rw [h]
  simpa [hl, hm] using h1
theorem pe_len {es es' : List E} (h : es.length ≠ es'.length) : decide (es.map pe = es'.map pe) = false := by
  rw [decide_eq_false_iff_not]
  intro e
  exact h (by simpa using congrArg List.length e)
theorem pe_eq {x y : E} (h : (decide (x.s = y.s) && decide (x.l = y.l)) = true) : pe x = pe y := by
  simp at h
  unfold pe
  rw [h.1, h.2]
theorem pe_not {x y : E} (h : (decide (x.s = y.s) && decide (x.l = y.l)) = false) : pe x ≠ pe y := by
  intro e
  have h1 : x.s = y.s := congrArg Prod.fst e
  have h2 : x.l = y.l := congrArg Prod.snd e
  rw [decide_eq_true h1, decide_eq_true h2] at h
  cases h
def SHead6 (w : World) (es es' : List E) (x : Value) (wr : World) : Prop := ∃ j : Nat, j ≤ es.length ∧ x = .int .i64 j ∧ Hid ((es.take j).map pe = (es'.take j).map pe) ∧ Below w.heap.size w wr

set_option maxRecDepth 100000 in
set_option maxHeartbeats 1000000 in
theorem likeAll_any (es es' : List E) (A A' : Option Addr) (cap cap' : Nat) (w : World) (hv : Es w w.heap.size es A cap) (hv' : Es w w.heap.size es' A' cap') :
    Calls Try.prog 25 #[.slice A es.length cap, .slice A' es'.length cap'] w fun x w' => x = .returned (.bool (decide (es.map pe = es'.map pe))) ∧ Below w.heap.size w w' := by
  have hlen : es.length ≤ 140737488355328 := by have := hv.2.1; omega
  have hlen' : es'.length ≤ 140737488355328 := by have := hv'.2.1; omega
  by_cases hl : es.length = es'.length
  · go_enter Try.func25, Try.ntmps25
    go_wp2_with fail
    go_loopw [13] (fun x wr => SHead6 w es es' x wr) (fun x _ => es.length - (intOf x).toNat)
    case atStart => exact ⟨0, Nat.zero_le _, rfl, lay rfl, Below.refl _ _⟩
    case round =>
      obtain ⟨j, hj, rfl, hV, hb⟩ := hrel
      by_cases hlt : j < es.length
      · have hlt' : j < es'.length := by omega
        obtain ⟨bk, off, rfl, hbk, e0, e1, hVs⟩ := (hv.below hb).at_ hlt
        obtain ⟨bk', off', rfl, hbk', y0, y1, hVs'⟩ := (hv'.below hb).at_ hlt'
        have k1 : (0 : Int) ≤ (j : Int) := by omega
        have k2 : (j : Int) < (es.length : Int) := by omega
        have k3 : (j : Int) < (es'.length : Int) := by omega
        have hbs := hb.size
        have hD : Below w.heap.size wr wr.drew := (Below.refl _ _).drew
        have hc := like_any es[j].s es'[j].s es[j].l es'[j].l es[j].A es'[j].A es[j].c es'[j].c wr.drew ((hVs.below hD).more hbs) ((hVs'.below hD).more hbs)
        have hyes := lay (fun (hr : (decide (es[j].s = es'[j].s) && decide (es[j].l = es'[j].l)) = true) => pe_take hV.out hlt hlt' (pe_eq hr))
        have hno := lay (fun (hr : (decide (es[j].s = es'[j].s) && decide (es[j].l = es'[j].l)) = false) => (pe_ne hlt hlt' (pe_not hr)).symm)
        generalize hr : (decide (es[j].s = es'[j].s) && decide (es[j].l = es'[j].l)) = r at hc hyes hno
        clear hr hVs hVs'
        generalize es[j].l.length = n1 at e1 hc
        generalize es'[j].l.length = n2 at y1 hc
        go_wp2_with fail
        go_region_held3 (fun w' => w'.cell? ⟨bk, off + j * 2, none⟩ = some (.string es[j].s) ∧ w'.cell? ⟨bk, off + j * 2 + 1, none⟩ = some (.slice es[j].A n1 es[j].c) ∧ w'.cell? ⟨bk', off' + j * 2, none⟩ = some (.string es'[j].s) ∧ w'.cell? ⟨bk', off' + j * 2 + 1, none⟩ = some (.slice es'[j].A n2 es'[j].c))
          (first | go_keep | (go_split_ands; refine ⟨?_, ?_, ?_, ?_⟩ <;> (rw [hb1.cell (by simp; omega)]; assumption)))
          ((go_at_call 65; refine hc.mono ?_; rintro z w1 ⟨rfl, hb1⟩; simp only [World.size_drew] at hb1; have hb2 := hb.trans ((hD.trans (hb1.mono hbs))); have hs1 := hb1.size))
        cases r with
        | true =>
          go_wp2_with fail
          exact ⟨⟨_, _, _, ⟨j + 1, hlt, by go_num, lay (hyes.out (by trivial)), hb2⟩, rfl, rfl, rfl⟩, by simp [intOf]; omega⟩
        | false =>
          go_wp2_with fail
          go_ret
          exact ⟨ret_bool (hno.out (by trivial)), hb2⟩
      · have he : Hid (es.map pe = es'.map pe) := lay (by
          have h1 := hV.out
          rwa [List.take_of_length_le (by omega), List.take_of_length_le (by omega)] at h1)
        go_wp2_with fail
        go_ret
        exact ⟨ret_bool (decide_eq_true he.out).symm, hb⟩
  · have hd : ((es.length : Int) != (es'.length : Int)) = true := by simp; omega
    go_enter Try.func25, Try.ntmps25
    go_wp2_with fail
    all_goals (go_ret; exact ⟨ret_bool (pe_len hl).symm, Below.refl _ _⟩)

/-- a box of the call's own that holds a node -/
def Nb (wr : World) (g : Nat) (lf : Bool) (u u' : Value) : Prop := (wr.cell? ⟨g, 0, none⟩ = some (.bool lf) ∧ wr.cell? ⟨g, 1, none⟩ = some u ∧ wr.cell? ⟨g, 2, none⟩ = some u') ∧ g < wr.heap.size
theorem Nb.new (w : World) (lf : Bool) (u u' : Value) : Nb (w.alloc (.cells #[.bool lf, u, u'] 60)) w.heap.size lf u u' := by
  have k := Blk.new w 60 #[.bool lf, u, u']
  exact ⟨⟨k.cell 0, k.cell 1, k.cell 2⟩, by simp⟩
theorem Nb.next {w w' : World} {g : Nat} {lf : Bool} {u u' : Value} (h : Nb w g lf u u') (hb : Below w.heap.size w w') : Nb w' g lf u u' := by
  obtain ⟨⟨a, b, c⟩, d⟩ := h
  have hs := hb.size
  refine ⟨⟨?_, ?_, ?_⟩, by omega⟩ <;> (rw [hb.cell (by simpa using d)]; assumption)
theorem Nb.alloc {w : World} {g : Nat} {lf : Bool} {u u' : Value} (h : Nb w g lf u u') (ob : Obj) : Nb (w.alloc ob) g lf u u' := h.next ((Below.refl _ _).alloc (Nat.le_refl _) _)
/-- two of them -/
def Nb2 (w : World) (lf lf' : Bool) (u u' v v' : Value) (wr : World) : Prop := Nb wr w.heap.size lf u u' ∧ Nb wr (w.heap.size + 1) lf' v v' ∧ Below w.heap.size w wr
theorem Nb2.new (w : World) (lf lf' : Bool) (u u' v v' : Value) : Nb2 w lf lf' u u' v v' ((w.alloc (.cells #[.bool lf, u, u'] 60)).alloc (.cells #[.bool lf', v, v'] 60)) := by
  have k := Nb.new (w.alloc (.cells #[.bool lf, u, u'] 60)) lf' v v'
  rw [World.size_alloc] at k
  exact ⟨(Nb.new w lf u u').alloc _, k, ((Below.refl _ _).alloc (Nat.le_refl _) _).alloc (by simp) _⟩
theorem Nb2.next {w wr w' : World} {lf lf' : Bool} {u u' v v' : Value} (h : Nb2 w lf lf' u u' v v' wr) (hb : Below wr.heap.size wr w') : Nb2 w lf lf' u u' v v' w' := ⟨h.1.next hb, h.2.1.next hb, h.2.2.trans (hb.mono h.2.2.size)⟩
theorem Nb2.drewN {w wr : World} {lf lf' : Bool} {u u' v v' : Value} (h : Nb2 w lf lf' u u' v v' wr) (n : Nat) : Nb2 w lf lf' u u' v v' (wr.drewN n) := h.next ⟨rfl, rfl, rfl, Nat.le_refl _, fun _ _ => rfl⟩
theorem kk_next {l m : List K} {j : Nat} (h : l.take j = m.take j) (hl : j < l.length) (hm : j < m.length) (e : l[j] = m[j]) : l.take (j + 1) = m.take (j + 1) := by
  rw [List.take_succ_eq_append_getElem hl, List.take_succ_eq_append_getElem hm, h, e]
theorem kk_ne {l m : List K} {j : Nat} (hl : j < l.length) (hm : j < m.length) (e : l[j] ≠ m[j]) : l ≠ m := by
  rintro rfl
  exact e rfl
theorem all_ne {p q : Prop} {l m : List K} [Decidable (p ∧ q ∧ l = m)] (h : l ≠ m) : decide (p ∧ q ∧ l = m) = false := decide_eq_false fun e => h e.2.2
def NHead6 (w : World) (ks ks' : List K) (lf lf' : Bool) (u u' v v' : Value) (x : Value) (wr : World) : Prop := ∃ j : Nat, j ≤ ks.length ∧ x = .int .i64 j ∧ Hid (ks.take j = ks'.take j) ∧ Nb2 w lf lf' u u' v v' wr

end Go.Proofs.Ytblfacodfmbodaa.nodes
