/- A medium's Write. -/
import Derived.Test.YtoenkkbcpafanaaA07
import Derived.Test.YtoenkkbcpafanaaA08
import Derived.Test.YtoenkkbcpafanaaShelf


namespace Go.Proofs.Ytoenkkbcpafanaa.mediums
set_option linter.unusedVariables false
set_option linter.unusedSimpArgs false
open Go.RowKit Go.Proofs.Ytoenkkbcpafanaa.base Go.Proofs.Ytoenkkbcpafanaa.trees Go.Proofs.Ytoenkkbcpafanaa.powers Go.Lib

/-- why a raw write is refused but for the power; 0: it is not -/
def refE (m : MS) (g o : Int) (b : ByteArray) : Int :=
  if 0 ≤ g ∧ g < (m.segs.length : Int) then
    if o < 0 ∨ ((m.at_ g.toNat).size : Int) < o then 121 else if (m.size : Int) - o < (b.size : Int) then 122 else 0
  else 120
/-- what a raw write makes -/
def putM (m : MS) (g o : Nat) (b : ByteArray) : MS := { m with segs := m.segs.set g ((m.at_ g).extract 0 o ++ b), past := m.past ++ [⟨(g : Int), (o : Int), b⟩] }
section
variable {w : World} {S : Nat → Prop} {p g : Nat} {m : MS} {sb : Nat} {vs : List Value} {vp : Value} {L W : Int}

set_option maxRecDepth 100000 in
set_option maxHeartbeats 4000000 in
theorem clone_ok (s : ByteArray) (w : World) (hlim : s.size ≤ 281474976710656) :
    Calls Try.prog 162 #[.string s] w fun e w' => e = .returned (.string s) ∧ Below w.heap.size w w' := by
  have h1 := Try.stringslite_Clone s w hlim
  go_enter Try.func162, Try.ntmps162
  go_wp2_with fail
  refine h1.mono ?_
  rintro e w' ⟨rfl, hb⟩
  go_wp2_with fail
  go_ret
  exact ⟨rfl, hb⟩

set_option maxRecDepth 100000 in
set_option maxHeartbeats 4000000 in
theorem write_seg (h : MdAt w S p g m sb vs vp) (sg at_ : Int) (b : ByteArray) (hj : ¬ (0 ≤ sg ∧ sg < (vs.length : Int))) :
    Calls Try.prog 99 #[.pointer (some ⟨g, 0, none⟩), .int .i64 sg, .int .i64 at_, .string b] w fun e w' => e = .returned (.int .i64 120) ∧ w' = w := by
  have hz := has_no h sg hj
  go_enter Try.func99, Try.ntmps99
  go_wp2_with (first | (go_at_call 160; refine hz.mono ?_; rintro e w' ⟨rfl, rfl⟩))
  go_ret
  exact ⟨rfl, rfl⟩

set_option maxRecDepth 100000 in
set_option maxHeartbeats 4000000 in
theorem write_place (h : MdAt w S p g m sb vs vp) (j : Nat) (hj : j < vs.length) (at_ : Int) (b : ByteArray) (ha : at_ < 0 ∨ ((m.at_ j).size : Int) < at_) :
    Calls Try.prog 99 #[.pointer (some ⟨g, 0, none⟩), .int .i64 (j : Int), .int .i64 at_, .string b] w fun e w' => e = .returned (.int .i64 121) ∧ w' = w := by
  have hz := has_yes h j hj
  have hu := used_yes h j hj
  have hle := h.seg_le hj
  have hms := h.bnd.1.2
  generalize m.at_ j = s at *
  clear h
  by_cases h0 : at_ < 0
  · go_enter Try.func99, Try.ntmps99
    go_wp2_with (first | (go_at_call 160; refine hz.mono ?_; rintro e w' ⟨rfl, rfl⟩) | (go_at_call 109; refine hu.mono ?_; rintro e w' ⟨rfl, rfl⟩))
    go_ret
    exact ⟨rfl, rfl⟩
  · have h1 : (s.size : Int) < at_ := ha.resolve_left h0
    have d1 : decide (at_ < 0) = false := decide_eq_false h0
    have d2 : decide ((s.size : Int) < at_) = true := decide_eq_true h1
    go_enter Try.func99, Try.ntmps99
    go_wp2_with (first | (go_at_call 160; refine hz.mono ?_; rintro e w' ⟨rfl, rfl⟩) | (go_at_call 109; refine hu.mono ?_; rintro e w' ⟨rfl, rfl⟩))
    go_ret
    exact ⟨rfl, rfl⟩

set_option maxRecDepth 100000 in
set_option maxHeartbeats 4000000 in
theorem write_room (h : MdAt w S p g m sb vs vp) (j : Nat) (hj : j < vs.length) (o : Nat) (b : ByteArray) (ho : o ≤ (m.at_ j).size) (hb : (m.size : Int) - (o : Int) < (b.size : Int)) :
    Calls Try.prog 99 #[.pointer (some ⟨g, 0, none⟩), .int .i64 (j : Int), .int .i64 (o : Int), .string b] w fun e w' => e = .returned (.int .i64 122) ∧ w' = w := by
  have hz := has_yes h j hj
  have hu := used_yes h j hj
  have hle := h.seg_le hj
  have hms := h.bnd.1.2
  have x0 := h.head.cell 0
  have x1 := h.head.cell 1
  have x2 := h.head.cell 2
  have x3 := h.head.cell 3
  simp only [List.getElem?_toArray, List.getElem?_cons_zero, List.getElem?_cons_succ] at x0 x1 x2 x3
  generalize m.at_ j = s at *
  clear h
  have d1 : decide ((o : Int) < 0) = false := decide_eq_false (by omega)
  have d2 : decide ((s.size : Int) < (o : Int)) = false := decide_eq_false (by omega)
  have e4 : IntKind.i64.wrap ((m.size : Int) - (o : Int)) = (m.size : Int) - (o : Int) := IntWalk.i64_in _ (by omega)
  have d3 : decide ((m.size : Int) - (o : Int) < (b.size : Int)) = true := decide_eq_true hb
  go_enter Try.func99, Try.ntmps99
  go_wp2_with (first | (go_at_call 160; refine hz.mono ?_; rintro e w' ⟨rfl, rfl⟩) | (go_at_call 109; refine hu.mono ?_; rintro e w' ⟨rfl, rfl⟩))
  go_ret
  exact ⟨rfl, rfl⟩

set_option maxRecDepth 100000 in
set_option maxHeartbeats 4000000 in
theorem write_off (h : MdAt w S p g m sb vs vp) (hp : Blk w p 219 (PC L W)) (hI : In L) (hL : L = 0) (j : Nat) (hj : j < vs.length) (o : Nat) (b : ByteArray) (ho : o ≤ (m.at_ j).size) (hb : (b.size : Int) ≤ (m.size : Int) - (o : Int)) :
    Calls Try.prog 99 #[.pointer (some ⟨g, 0, none⟩), .int .i64 (j : Int), .int .i64 (o : Int), .string b] w fun e w' => e = .returned (.int .i64 110) ∧ Blk w' p 219 (PC (spL L) (wSp L W)) ∧ St (one p) w w' := by
  have hz := has_yes h j hj
  have hu := used_yes h j hj
  have hle := h.seg_le hj
  have hms := h.bnd.1.2
  have x0 := h.head.cell 0
  have x1 := h.head.cell 1
  have x2 := h.head.cell 2
  have x3 := h.head.cell 3
  simp only [List.getElem?_toArray, List.getElem?_cons_zero, List.getElem?_cons_succ] at x0 x1 x2 x3
  generalize m.at_ j = s at *
  clear h
  have hc := spend_ok hp hI
  have e9 : eSp L = 110 := by unfold eSp; rw [if_pos hL]
  rw [e9] at hc
  clear hL e9
  have d1 : decide ((o : Int) < 0) = false := decide_eq_false (by omega)
  have d2 : decide ((s.size : Int) < (o : Int)) = false := decide_eq_false (by omega)
  have e4 : IntKind.i64.wrap ((m.size : Int) - (o : Int)) = (m.size : Int) - (o : Int) := IntWalk.i64_in _ (by omega)
  have d3 : decide ((m.size : Int) - (o : Int) < (b.size : Int)) = false := decide_eq_false (by omega)
  go_enter Try.func99, Try.ntmps99
  go_wp2_with (first | (go_at_call 160; refine hz.mono ?_; rintro e w' ⟨rfl, rfl⟩) | (go_at_call 109; refine hu.mono ?_; rintro e w' ⟨rfl, rfl⟩))
  refine hc.mono ?_
  rintro e w1 ⟨rfl, k1, s1⟩
  go_wp2_with fail
  go_ret
  exact ⟨rfl, k1, s1⟩

/-- a row of the medium's is written anew: what holds behind it -/
theorem MdAt.put_seg {w1 w2 : World} (h : MdAt w1 S p g m sb vs vp) {j : Nat} (hj : j < vs.length) {v' : Value} {s : ByteArray} (hK : Keep (fun k => vs[j].ownBlock = some k) w1 w2) (ho : w2.ownsRow 0 5 1 v' s.size (strCells s)) (hv : ∀ k, v'.ownBlock = some k → vs[j].ownBlock = some k ∨ (w1.heap.size ≤ k ∧ k < w2.heap.size)) (hs : s.size ≤ m.size) :
    MdAt (w2.setCell ⟨sb, j, none⟩ v') (fun k => S k ∨ (w1.heap.size ≤ k ∧ k < w2.heap.size)) p g { m with segs := m.segs.set j s } sb (vs.set j v') vp ∧ Keep S w1 (w2.setCell ⟨sb, j, none⟩ v') := by
  have hlen := h.len
  have hfar : ∀ k, k ≠ sb → (w2.setCell ⟨sb, j, none⟩ v').heap[k]? = w2.heap[k]? := fun k hk => Below.heap_setCell _ _ _ _ (by simpa using hk)
  have hat : ∀ i, ({ m with segs := m.segs.set j s } : MS).at_ i = if i = j then s else m.at_ i := fun i => by
    unfold MS.at_
    simp only [List.getElem?_set]
    by_cases e : j = i
    · subst e
      simp [show j < m.segs.length by omega]
    · simp [e, show ¬ i = j from fun x => e x.symm]
  have hne : ∀ k, vs[j].ownBlock = some k → k ≠ g ∧ k ≠ sb := fun k hk => (h.segS j hj k hk).2
  have kb : ∀ k, k < w1.heap.size → vs[j].ownBlock ≠ some k → k ≠ sb → (w2.setCell ⟨sb, j, none⟩ v').heap[k]? = w1.heap[k]? := fun k h1 h2 h3 => (hfar k h3).trans (hK.block k h1 h2)
  have hnew : ∀ k, v'.ownBlock = some k → (S k ∨ (w1.heap.size ≤ k ∧ k < w2.heap.size)) ∧ k ≠ g ∧ k ≠ sb := fun k hk => by
    rcases hv k hk with e | e
    · have := h.segS j hj k e; exact ⟨.inl this.1, this.2⟩
    · have l1 := h.lt g h.inS.1
      have l2 := h.lt sb h.inS.2.1
      exact ⟨.inr e, by omega, by omega⟩
  have hother : ∀ i (hi : i < vs.length), i ≠ j → ∀ k, vs[i].ownBlock = some k → v'.ownBlock ≠ some k := fun i hi hij k hk e => by
    rcases hv k e with e1 | e1
    · exact h.apart i j hi hj hij k hk e1
    · have := h.lt k (h.segS i hi k hk).1; omega
  refine ⟨⟨?_, ?_, ?_, ?_, ?_, ?_, ⟨.inl h.inS.1, .inl h.inS.2.1, h.inS.2.2⟩, ?_, ?_, ?_, ?_, ?_, ?_⟩, ?_⟩
  · rw [List.length_set]
    exact (kb g (h.lt g h.inS.1) (fun e => (hne g e).1 rfl) h.inS.2.2).trans h.head
  · have h1 := (hK.blk h.row (fun e => (hne sb e).2 rfl)).put j v'
    simpa using h1
  · simp [hlen]
  · intro i hi
    rw [List.length_set] at hi
    rw [hat i, List.getElem_set]
    by_cases e : j = i
    · subst e
      simp only [if_true]
      exact ownsRow_agree ho fun k hk => hfar k (hnew k hk).2.2
    · rw [if_neg e, if_neg (fun x => e x.symm)]
      exact ownsRow_agree (h.segs i hi) fun k hk => kb k (h.lt k (h.segS i hi k hk).1) (fun e2 => h.apart i j hi hj (fun x => e x.symm) k hk e2) (h.segS i hi k hk).2.2
  · intro i i' hi hi' hne' b hb
    rw [List.length_set] at hi hi'
    rw [List.getElem_set] at hb ⊢
    by_cases e : j = i
    · subst e
      rw [if_neg hne']
      simp only [if_true] at hb
      exact fun e2 => hother i' hi' (fun x => hne' x.symm) b e2 hb
    · rw [if_neg e] at hb
      by_cases e' : j = i'
      · subst e'
        simp only [if_true]
        exact hother i hi hne' b hb
      · rw [if_neg e']
        exact h.apart i i' hi hi' hne' b hb
  · refine ownsRow_agree h.past fun k hk => ?_
    have h1 := h.pastS k hk
    exact kb k (h.lt k h1.1) (h1.2.2.2 j hj) h1.2.2.1
  · intro i hi b hb
    rw [List.length_set] at hi
    rw [List.getElem_set] at hb
    by_cases e : j = i
    · subst e
      simp only [if_true] at hb
      exact hnew b hb
    · rw [if_neg e] at hb
      have := h.segS i hi b hb
      exact ⟨.inl this.1, this.2⟩
  · intro b hb
    have h1 := h.pastS b hb
    refine ⟨.inl h1.1, h1.2.1, h1.2.2.1, fun i hi => ?_⟩
    rw [List.length_set] at hi
    rw [List.getElem_set]
    by_cases e : j = i
    · subst e
      simp only [if_true]
      intro e2
      rcases hv b e2 with e3 | e3
      · exact h1.2.2.2 j hj e3
      · have := h.lt b h1.1; omega
    · rw [if_neg e]
      exact h1.2.2.2 i hi
  · intro b hb
    rw [World.size_setCell]
    rcases hb with e | e
    · exact Nat.lt_of_lt_of_le (h.lt b e) hK.size
    · exact e.2
  · rintro (e | e)
    · exact h.notp e
    · have := h.plt; omega
  · rw [World.size_setCell]; exact Nat.lt_of_lt_of_le h.plt hK.size
  · obtain ⟨b1, b2, b3, b4⟩ := h.bnd
    refine ⟨b1, by rw [List.length_set]; exact b2, fun i => ?_, b4⟩
    rw [hat i]
    split
    · exact hs
    · exact b3 i
  · refine ⟨hK.os, hK.tape, hK.output, by rw [World.size_setCell]; exact hK.size, fun k hk hn => kb k hk (fun e => hn (h.segS j hj k e).1) (fun e => hn (e ▸ h.inS.2.1))⟩

/-- a raw write is told: what holds behind it -/
theorem MdAt.put_past {w1 w2 : World} (h : MdAt w1 S p g m sb vs vp) {vp' : Value} {x : RW} (hK : Keep (fun k => vp.ownBlock = some k) w1 w2) (ho : w2.ownsRow 0 263 3 vp' (m.past.length + 1) (cellsR m.past ++ x.cells)) (hv : ∀ k, vp'.ownBlock = some k → vp.ownBlock = some k ∨ (w1.heap.size ≤ k ∧ k < w2.heap.size)) (hl : (m.past.length + 1) * 32 ≤ 140737488355328) :
    MdAt (w2.setCell ⟨g, 3, none⟩ vp') (fun k => S k ∨ (w1.heap.size ≤ k ∧ k < w2.heap.size)) p g { m with past := m.past ++ [x] } sb vs vp' ∧ Keep S w1 (w2.setCell ⟨g, 3, none⟩ vp') := by
  have hfar : ∀ k, k ≠ g → (w2.setCell ⟨g, 3, none⟩ vp').heap[k]? = w2.heap[k]? := fun k hk => Below.heap_setCell _ _ _ _ (by simpa using hk)
  have kb : ∀ k, k < w1.heap.size → vp.ownBlock ≠ some k → k ≠ g → (w2.setCell ⟨g, 3, none⟩ vp').heap[k]? = w1.heap[k]? := fun k h1 h2 h3 => (hfar k h3).trans (hK.block k h1 h2)
  have hnew : ∀ k, vp'.ownBlock = some k → (S k ∨ (w1.heap.size ≤ k ∧ k < w2.heap.size)) ∧ k ≠ g ∧ k ≠ sb ∧ ∀ i (hi : i < vs.length), vs[i].ownBlock ≠ some k := fun k hk => by
    rcases hv k hk with e | e
    · have := h.pastS k e; exact ⟨.inl this.1, this.2⟩
    · have l1 := h.lt g h.inS.1
      have l2 := h.lt sb h.inS.2.1
      exact ⟨.inr e, by omega, by omega, fun i hi e2 => by have := h.lt k (h.segS i hi k e2).1; omega⟩
  refine ⟨⟨?_, ?_, h.len, ?_, h.apart, ?_, ⟨.inl h.inS.1, .inl h.inS.2.1, h.inS.2.2⟩, ?_, ?_, ?_, ?_, ?_, ?_⟩, ?_⟩
  · have h1 := (hK.blk h.head (fun e => (h.pastS g e).2.1 rfl)).put 3 vp'
    simpa using h1
  · exact (kb sb (h.lt sb h.inS.2.1) (fun e => (h.pastS sb e).2.2.1 rfl) (fun e => h.inS.2.2 e.symm)).trans h.row
  · intro i hi
    exact ownsRow_agree (h.segs i hi) fun k hk => kb k (h.lt k (h.segS i hi k hk).1) (fun e => (h.pastS k e).2.2.2 i hi hk) (h.segS i hi k hk).2.1
  · have e1 : cellsR [x] = x.cells := by simp [cellsR]
    have e2 : ({ m with past := m.past ++ [x] } : MS).past = m.past ++ [x] := rfl
    rw [e2, List.length_append, List.length_singleton, cellsR_app, e1]
    exact ownsRow_agree ho fun k hk => hfar k (hnew k hk).2.1
  · intro i hi b hb
    have := h.segS i hi b hb
    exact ⟨.inl this.1, this.2⟩
  · intro b hb
    exact hnew b hb
  · intro b hb
    rw [World.size_setCell]
    rcases hb with e | e
    · exact Nat.lt_of_lt_of_le (h.lt b e) hK.size
    · exact e.2
  · rintro (e | e)
    · exact h.notp e
    · have := h.plt; omega
  · rw [World.size_setCell]; exact Nat.lt_of_lt_of_le h.plt hK.size
  · obtain ⟨b1, b2, b3, b4⟩ := h.bnd
    exact ⟨b1, b2, b3, by simpa using hl⟩
  · refine ⟨hK.os, hK.tape, hK.output, by rw [World.size_setCell]; exact hK.size, fun k hk hn => kb k hk (fun e => hn (h.pastS k e).1) (fun e => hn (e ▸ h.inS.1))⟩

set_option maxRecDepth 100000 in
set_option maxHeartbeats 4000000 in
theorem write_do (h : MdAt w S p g m sb vs vp) (hp : Blk w p 219 (PC L W)) (hI : In L) (hL : L ≠ 0) (j : Nat) (hj : j < vs.length) (o : Nat) (b : ByteArray) (ho : o ≤ (m.at_ j).size) (hb : (b.size : Int) ≤ (m.size : Int) - (o : Int)) (hl : (m.past.length + 1) * 32 ≤ 140737488355328) :
    Calls Try.prog 99 #[.pointer (some ⟨g, 0, none⟩), .int .i64 (j : Int), .int .i64 (o : Int), .string b] w fun e w' => e = .returned (.int .i64 0) ∧ ∃ S', (∀ k, S' k → S k ∨ w.heap.size ≤ k) ∧ Md w' S' p g (putM m j o b) ∧ Blk w' p 219 (PC (spL L) (wSp L W)) ∧ Keep (fun k => S k ∨ k = p) w w' := by
  obtain ⟨i0, hi0, hz0, hz1, hz2⟩ := info_parts infoU8
  obtain ⟨j0, hj0, hy0, hy1, hy2⟩ := info_parts infoRw
  have hz := has_yes h j hj
  have hu := used_yes h j hj
  have hle := h.seg_le hj
  have hms := h.bnd.1.2
  obtain ⟨s, hsj⟩ : ∃ s, m.at_ j = s := ⟨_, rfl⟩
  rw [hsj] at hu hle ho
  have HSJ := powers.lay hsj
  have HM := powers.lay h
  have hc := spend_ok hp hI
  have e9 : eSp L = 0 := by unfold eSp; rw [if_neg hL]
  rw [e9] at hc
  clear hL e9
  have hb9 := hb
  have x0 := h.head.cell 0
  have x1 := h.head.cell 1
  have x2 := h.head.cell 2
  have x3 := h.head.cell 3
  simp only [List.getElem?_toArray, List.getElem?_cons_zero, List.getElem?_cons_succ] at x0 x1 x2 x3
  have d1 : decide ((o : Int) < 0) = false := decide_eq_false (by omega)
  have d2 : decide ((s.size : Int) < (o : Int)) = false := decide_eq_false (by omega)
  have e4 : IntKind.i64.wrap ((m.size : Int) - (o : Int)) = (m.size : Int) - (o : Int) := IntWalk.i64_in _ (by omega)
  have d3 : decide ((m.size : Int) - (o : Int) < (b.size : Int)) = false := decide_eq_false (by omega)
  clear h hsj
  go_enter Try.func99, Try.ntmps99
  go_wp2_with (first | (go_at_call 160; refine hz.mono ?_; rintro e w' ⟨rfl, rfl⟩) | (go_at_call 109; refine hu.mono ?_; rintro e w' ⟨rfl, rfl⟩))
  refine hc.mono ?_
  rintro e w1 ⟨rfl, k1, s1⟩
  have h1 : MdAt w1 S p g m sb vs vp := HM.out.agree (fun k hk => s1.block k (HM.out.lt k hk) (fun e => HM.out.notp (e ▸ hk))) s1.size
  clear hz hu hc x0 x1 x2 x3 d1 d2 d3 e4
  have x0 := h1.head.cell 0
  have x1 := h1.head.cell 1
  have x2 := h1.head.cell 2
  have x3 := h1.head.cell 3
  simp only [List.getElem?_toArray, List.getElem?_cons_zero, List.getElem?_cons_succ] at x0 x1 x2 x3
  obtain ⟨A, c, hvj, hc1, hc2, _, xs⟩ := h1.seg hj
  have hrowj := h1.segs j hj
  rw [HSJ.out] at hvj hc1 xs hrowj
  obtain ⟨v1, hrun, hrow1, hv1, hv2⟩ := row_upto Try.underlying260 hi0 hz1 hrowj o ho
  rw [hvj] at hrun
  have lg := h1.lt g h1.inS.1
  have lsb := h1.lt sb h1.inS.2.1
  have ng : ¬ (fun k => vs[j].ownBlock = some k) g := fun e => (h1.segS j hj g e).2.1 rfl
  have nsb : ¬ (fun k => vs[j].ownBlock = some k) sb := fun e => (h1.segS j hj sb e).2.2 rfl
  go_wp2_with fail
  have hS1 : Below w1.heap.size w1 w1.drew := (Below.refl _ _).drew
  have hS0 : Keep (fun k => vs[j].ownBlock = some k) w1 w1.drew := Keep.of_below hS1
  refine mix.region_D (fun w' => Keep (fun k => vs[j].ownBlock = some k) w1 w') (fun j => decide (16 ≤ j)) (by kernel_rfl) ?_
  generalize w1.drew = w1d at hS0 hS1 ⊢
  refine mix.D_take (i := 0) (v := ?_) rfl (by kernel_rfl) (by kernel_rfl) (fun _ _ _ h => h) (Or.inl ⟨by rfl, ?_⟩) hS0 ?_
  rotate_left
  · intro w' hSw
    have y0 := (hSw.cell (p := ⟨g, 2, none⟩) lg ng).trans x2
    have y1 := (hSw.cell (p := ⟨sb, j, none⟩) lsb nsb).trans xs
    try simp only [List.getElem_toArray, List.getElem_cons_zero, List.getElem_cons_succ]
    go_simp
    exact rfl
  try simp only [Act.put, List.setIfInBounds_toArray, List.set_cons_zero, List.set_cons_succ, List.getElem_toArray, List.getElem_cons_zero, List.getElem_cons_succ]
  refine mix.D_take (i := 1) (v := ?_) rfl (by kernel_rfl) (by kernel_rfl) (fun _ _ _ h => h) (Or.inl ⟨by rfl, ?_⟩) hS0 ?_
  rotate_left
  · intro w' hSw
    have y0 := (hSw.cell (p := ⟨g, 2, none⟩) lg ng).trans x2
    have y1 := (hSw.cell (p := ⟨sb, j, none⟩) lsb nsb).trans xs
    try simp only [List.getElem_toArray, List.getElem_cons_zero, List.getElem_cons_succ]
    go_simp
    exact rfl
  try simp only [Act.put, List.setIfInBounds_toArray, List.set_cons_zero, List.set_cons_succ, List.getElem_toArray, List.getElem_cons_zero, List.getElem_cons_succ]
  refine mix.D_take (i := 2) (v := ?_) rfl (by kernel_rfl) (by kernel_rfl) (fun _ _ _ h => h) (Or.inl ⟨by rfl, ?_⟩) hS0 ?_
  rotate_left
  · intro w' hSw
    have y0 := (hSw.cell (p := ⟨g, 2, none⟩) lg ng).trans x2
    have y1 := (hSw.cell (p := ⟨sb, j, none⟩) lsb nsb).trans xs
    try simp only [List.getElem_toArray, List.getElem_cons_zero, List.getElem_cons_succ]
    go_simp
    exact rfl
  try simp only [Act.put, List.setIfInBounds_toArray, List.set_cons_zero, List.set_cons_succ, List.getElem_toArray, List.getElem_cons_zero, List.getElem_cons_succ]
  refine mix.D_take (i := 3) (v := ?_) rfl (by kernel_rfl) (by kernel_rfl) (fun _ _ _ h => h) (Or.inl ⟨by rfl, ?_⟩) hS0 ?_
  rotate_left
  · intro w' hSw
    have y0 := (hSw.cell (p := ⟨g, 2, none⟩) lg ng).trans x2
    have y1 := (hSw.cell (p := ⟨sb, j, none⟩) lsb nsb).trans xs
    try simp only [List.getElem_toArray, List.getElem_cons_zero, List.getElem_cons_succ]
    go_simp
    exact rfl
  try simp only [Act.put, List.setIfInBounds_toArray, List.set_cons_zero, List.set_cons_succ, List.getElem_toArray, List.getElem_cons_zero, List.getElem_cons_succ]
  refine mix.D_take (i := 4) (v := ?_) rfl (by kernel_rfl) (by kernel_rfl) (fun _ _ _ h => h) (Or.inl ⟨by rfl, ?_⟩) hS0 ?_
  rotate_left
  · intro w' hSw
    have y0 := (hSw.cell (p := ⟨g, 2, none⟩) lg ng).trans x2
    have y1 := (hSw.cell (p := ⟨sb, j, none⟩) lsb nsb).trans xs
    try simp only [List.getElem_toArray, List.getElem_cons_zero, List.getElem_cons_succ]
    go_simp
    exact rfl
  try simp only [Act.put, List.setIfInBounds_toArray, List.set_cons_zero, List.set_cons_succ, List.getElem_toArray, List.getElem_cons_zero, List.getElem_cons_succ]
  refine mix.D_take (i := 5) (v := ?_) rfl (by kernel_rfl) (by kernel_rfl) (fun _ _ _ h => h) (Or.inl ⟨by rfl, ?_⟩) hS0 ?_
  rotate_left
  · intro w' hSw
    have y0 := (hSw.cell (p := ⟨g, 2, none⟩) lg ng).trans x2
    have y1 := (hSw.cell (p := ⟨sb, j, none⟩) lsb nsb).trans xs
    try simp only [List.getElem_toArray, List.getElem_cons_zero, List.getElem_cons_succ]
    go_simp
    exact rfl
  try simp only [Act.put, List.setIfInBounds_toArray, List.set_cons_zero, List.set_cons_succ, List.getElem_toArray, List.getElem_cons_zero, List.getElem_cons_succ]
  refine mix.D_take (i := 6) (v := ?_) rfl (by kernel_rfl) (by kernel_rfl) (fun _ _ _ h => h) (Or.inl ⟨by rfl, ?_⟩) hS0 ?_
  rotate_left
  · intro w' hSw
    have y0 := (hSw.cell (p := ⟨g, 2, none⟩) lg ng).trans x2
    have y1 := (hSw.cell (p := ⟨sb, j, none⟩) lsb nsb).trans xs
    try simp only [List.getElem_toArray, List.getElem_cons_zero, List.getElem_cons_succ]
    go_simp
    exact rfl
  try simp only [Act.put, List.setIfInBounds_toArray, List.set_cons_zero, List.set_cons_succ, List.getElem_toArray, List.getElem_cons_zero, List.getElem_cons_succ]
  refine mix.D_take (i := 7) (v := ?_) rfl (by kernel_rfl) (by kernel_rfl) (fun _ _ _ h => h) (Or.inl ⟨by rfl, ?_⟩) hS0 ?_
  rotate_left
  · intro w' hSw
    have y0 := (hSw.cell (p := ⟨g, 2, none⟩) lg ng).trans x2
    have y1 := (hSw.cell (p := ⟨sb, j, none⟩) lsb nsb).trans xs
    try simp only [List.getElem_toArray, List.getElem_cons_zero, List.getElem_cons_succ]
    go_simp
    exact rfl
  try simp only [Act.put, List.setIfInBounds_toArray, List.set_cons_zero, List.set_cons_succ, List.getElem_toArray, List.getElem_cons_zero, List.getElem_cons_succ]
  refine mix.D_take (i := 8) (v := ?_) rfl (by kernel_rfl) (by kernel_rfl) (fun _ _ _ h => h) (Or.inl ⟨by rfl, ?_⟩) hS0 ?_
  rotate_left
  · intro w' hSw
    have y0 := (hSw.cell (p := ⟨g, 2, none⟩) lg ng).trans x2
    have y1 := (hSw.cell (p := ⟨sb, j, none⟩) lsb nsb).trans xs
    try simp only [List.getElem_toArray, List.getElem_cons_zero, List.getElem_cons_succ]
    go_simp
    exact rfl
  try simp only [Act.put, List.setIfInBounds_toArray, List.set_cons_zero, List.set_cons_succ, List.getElem_toArray, List.getElem_cons_zero, List.getElem_cons_succ]
  refine mix.D_take (i := 9) (v := ?_) rfl (by kernel_rfl) (by kernel_rfl) (fun _ _ _ h => h) (Or.inl ⟨by rfl, ?_⟩) hS0 ?_
  rotate_left
  · intro w' hSw
    have y0 := (hSw.cell (p := ⟨g, 2, none⟩) lg ng).trans x2
    have y1 := (hSw.cell (p := ⟨sb, j, none⟩) lsb nsb).trans xs
    try simp only [List.getElem_toArray, List.getElem_cons_zero, List.getElem_cons_succ]
    go_simp
    exact rfl
  try simp only [Act.put, List.setIfInBounds_toArray, List.set_cons_zero, List.set_cons_succ, List.getElem_toArray, List.getElem_cons_zero, List.getElem_cons_succ]
  refine mix.D_take (i := 10) (v := ?_) rfl (by kernel_rfl) (by kernel_rfl) (fun _ _ _ h => h) (Or.inl ⟨by rfl, ?_⟩) hS0 ?_
  rotate_left
  · intro w' hSw
    have y0 := (hSw.cell (p := ⟨g, 2, none⟩) lg ng).trans x2
    have y1 := (hSw.cell (p := ⟨sb, j, none⟩) lsb nsb).trans xs
    try simp only [List.getElem_toArray, List.getElem_cons_zero, List.getElem_cons_succ]
    go_simp
    exact rfl
  try simp only [Act.put, List.setIfInBounds_toArray, List.set_cons_zero, List.set_cons_succ, List.getElem_toArray, List.getElem_cons_zero, List.getElem_cons_succ]
  refine mix.D_take (i := 11) (v := ?_) rfl (by kernel_rfl) (by kernel_rfl) (fun _ _ _ h => h) (Or.inl ⟨by rfl, ?_⟩) hS0 ?_
  rotate_left
  · intro w' hSw
    have y0 := (hSw.cell (p := ⟨g, 2, none⟩) lg ng).trans x2
    have y1 := (hSw.cell (p := ⟨sb, j, none⟩) lsb nsb).trans xs
    try simp only [List.getElem_toArray, List.getElem_cons_zero, List.getElem_cons_succ]
    go_simp
    exact rfl
  try simp only [Act.put, List.setIfInBounds_toArray, List.set_cons_zero, List.set_cons_succ, List.getElem_toArray, List.getElem_cons_zero, List.getElem_cons_succ]
  refine mix.D_take (i := 12) (v := ?_) rfl (by kernel_rfl) (by kernel_rfl) (fun _ _ _ h => h) (Or.inl ⟨by rfl, ?_⟩) hS0 ?_
  rotate_left
  · intro w' hSw
    have y0 := (hSw.cell (p := ⟨g, 2, none⟩) lg ng).trans x2
    have y1 := (hSw.cell (p := ⟨sb, j, none⟩) lsb nsb).trans xs
    try simp only [List.getElem_toArray, List.getElem_cons_zero, List.getElem_cons_succ]
    go_simp
    exact rfl
  try simp only [Act.put, List.setIfInBounds_toArray, List.set_cons_zero, List.set_cons_succ, List.getElem_toArray, List.getElem_cons_zero, List.getElem_cons_succ]
  refine mix.D_take (i := 13) (v := ?_) rfl (by kernel_rfl) (by kernel_rfl) (fun _ _ _ h => h) (Or.inl ⟨by rfl, ?_⟩) hS0 ?_
  rotate_left
  · intro w' hSw
    have y0 := (hSw.cell (p := ⟨g, 2, none⟩) lg ng).trans x2
    have y1 := (hSw.cell (p := ⟨sb, j, none⟩) lsb nsb).trans xs
    try simp only [List.getElem_toArray, List.getElem_cons_zero, List.getElem_cons_succ]
    go_simp
    exact rfl
  try simp only [Act.put, List.setIfInBounds_toArray, List.set_cons_zero, List.set_cons_succ, List.getElem_toArray, List.getElem_cons_zero, List.getElem_cons_succ]
  refine mix.D_take (i := 14) (v := ?_) rfl (by kernel_rfl) (by kernel_rfl) (fun _ _ _ h => h) (Or.inl ⟨by rfl, ?_⟩) hS0 ?_
  rotate_left
  · intro w' hSw
    have y0 := (hSw.cell (p := ⟨g, 2, none⟩) lg ng).trans x2
    have y1 := (hSw.cell (p := ⟨sb, j, none⟩) lsb nsb).trans xs
    try simp only [List.getElem_toArray, List.getElem_cons_zero, List.getElem_cons_succ]
    go_simp
    exact rfl
  try simp only [Act.put, List.setIfInBounds_toArray, List.set_cons_zero, List.set_cons_succ, List.getElem_toArray, List.getElem_cons_zero, List.getElem_cons_succ]
  refine mix.D_op (k := 15) rfl rfl (by kernel_rfl) (fun K' hK => ?_)
  simp only [List.getElem_toArray, List.getElem_cons_zero, List.getElem_cons_succ]
  refine wp_putS Try.underlying260 Try.underlying9 hi0 hz0 hz1 hz2 (.tmp 56) (.tmp 57) rfl (row_below hrow1 hS1) rfl b rfl (by omega) ?_
  intro v9 w9 ho9 hK9 hv9
  have hb1 : Keep (fun k => vs[j].ownBlock = some k) w1 w9 := hS0.trans (S1 := fun k => v1.ownBlock = some k) hK9 (fun k hk _ => hv1 ▸ hk)
  obtain ⟨A9, c9, rfl, _, _, _⟩ := row_rdF ho9
  refine hK.out _ _ (fun _ => hb1) ?_
  clear hK K'
  try simp only [Act.put, List.setIfInBounds_toArray, List.set_cons_zero, List.set_cons_succ]
  refine mix.D_op (k := 16) rfl rfl (by kernel_rfl) (fun K' hK => ?_)
  simp only [List.getElem_toArray, List.getElem_cons_zero, List.getElem_cons_succ]
  go_wp2_with fail
  refine hK.out _ _ (fun h => by simp at h) ?_
  clear hK K'
  try simp only [Act.put, List.setIfInBounds_toArray, List.set_cons_zero, List.set_cons_succ]
  refine mix.D_op (k := 17) rfl rfl (by kernel_rfl) (fun K' hK => ?_)
  simp only [List.getElem_toArray, List.getElem_cons_zero, List.getElem_cons_succ]
  have kr := hb1.blk h1.row nsb
  have xr := kr.cell j
  have fr := kr.frozen j
  rw [List.getElem?_toArray, List.getElem?_eq_getElem hj, hvj] at xr
  go_wp2_with fail
  refine hK.out _ _ (fun h => by simp at h) ?_
  clear hK K' kr xr fr
  refine mix.D_done (by kernel_rfl) ?_ _
  have hs9 : (s.extract 0 o ++ b).size = o + b.size := by rw [size_app, size_take s o ho]
  have hcs9 : strCells (s.extract 0 o ++ b) = (strCells s).take o ++ strCells b := by rw [strCells_app, strCells_take]
  obtain ⟨h2, kp2⟩ := h1.put_seg (s := s.extract 0 o ++ b) hj hb1 (by rw [hs9, hcs9]; exact ho9) (fun k hk => by
    rcases hv9 k hk with e | e
    · exact .inl (hv1 ▸ e)
    · have := hS1.size; exact .inr ⟨by omega, e.2⟩) (by omega)
  have hz9 : w9.heap.size = (w9.setCell ⟨sb, j, none⟩ (.slice A9 (o + b.size) c9)).heap.size := by simp
  have h10 := hS1.size
  generalize w9.setCell ⟨sb, j, none⟩ (.slice A9 (o + b.size) c9) = w2 at *
  rw [hz9] at h2
  obtain ⟨S2, hS2⟩ : ∃ S2 : Nat → Prop, S2 = fun k => S k ∨ w1.heap.size ≤ k ∧ k < w2.heap.size := ⟨_, rfl⟩
  obtain ⟨m2, hm2⟩ : ∃ m2 : MS, m2 = { m with segs := m.segs.set j (s.extract 0 o ++ b) } := ⟨_, rfl⟩
  rw [← hS2, ← hm2] at h2
  have hpl : m2.past = m.past := by rw [hm2]
  have HP := powers.lay (show h2.past = h2.past from rfl)
  have hpst := h2.past
  rw [hpl] at hpst
  obtain ⟨PA, pc, hvp, _, _, _⟩ := row_rdF hpst
  have lg2 := h2.lt g h2.inS.1
  have ng2 : ¬ (fun k => vp.ownBlock = some k) g := fun e => (h2.pastS g e).2.1 rfl
  subst hvp
  clear HP hpl x0 x1 x2 x3 xs hb1 ho9 hK9 hv9 hrun hrow1 hv2 hv1 hrowj hvj hS0 hS1 h10
  have x0 := h2.head.cell 0
  have x1 := h2.head.cell 1
  have x2 := h2.head.cell 2
  have x3 := h2.head.cell 3
  simp only [List.getElem?_toArray, List.getElem?_cons_zero, List.getElem?_cons_succ] at x0 x1 x2 x3
  go_wp2_with fail
  have hS1 : Below w2.heap.size w2 w2.drew := (Below.refl _ _).drew
  have hS0 : Keep (fun k => (Value.slice PA m.past.length pc).ownBlock = some k) w2 w2.drew := Keep.of_below hS1
  refine mix.region_D (fun w' => Keep (fun k => (Value.slice PA m.past.length pc).ownBlock = some k) w2 w') (fun j => decide (12 ≤ j)) (by kernel_rfl) ?_
  generalize w2.drew = w2d at hS0 hS1 ⊢
  refine mix.D_take (i := 0) (v := ?_) rfl (by kernel_rfl) (by kernel_rfl) (fun _ _ _ h => h) (Or.inl ⟨by rfl, ?_⟩) hS0 ?_
  rotate_left
  · intro w' hSw
    have y0 := (hSw.cell (p := ⟨g, 3, none⟩) lg2 ng2).trans x3
    try simp only [List.getElem_toArray, List.getElem_cons_zero, List.getElem_cons_succ]
    go_simp
    exact rfl
  try simp only [Act.put, List.setIfInBounds_toArray, List.set_cons_zero, List.set_cons_succ, List.getElem_toArray, List.getElem_cons_zero, List.getElem_cons_succ]
  refine mix.D_take (i := 1) (v := ?_) rfl (by kernel_rfl) (by kernel_rfl) (fun _ _ _ h => h) (Or.inl ⟨by rfl, ?_⟩) hS0 ?_
  rotate_left
  · intro w' hSw
    have y0 := (hSw.cell (p := ⟨g, 3, none⟩) lg2 ng2).trans x3
    try simp only [List.getElem_toArray, List.getElem_cons_zero, List.getElem_cons_succ]
    go_simp
    exact rfl
  try simp only [Act.put, List.setIfInBounds_toArray, List.set_cons_zero, List.set_cons_succ, List.getElem_toArray, List.getElem_cons_zero, List.getElem_cons_succ]
  refine mix.D_take (i := 2) (v := ?_) rfl (by kernel_rfl) (by kernel_rfl) (fun _ _ _ h => h) (Or.inl ⟨by rfl, ?_⟩) hS0 ?_
  rotate_left
  · intro w' hSw
    have y0 := (hSw.cell (p := ⟨g, 3, none⟩) lg2 ng2).trans x3
    try simp only [List.getElem_toArray, List.getElem_cons_zero, List.getElem_cons_succ]
    go_simp
    exact rfl
  try simp only [Act.put, List.setIfInBounds_toArray, List.set_cons_zero, List.set_cons_succ, List.getElem_toArray, List.getElem_cons_zero, List.getElem_cons_succ]
  refine mix.D_take (i := 3) (v := ?_) rfl (by kernel_rfl) (by kernel_rfl) (fun _ _ _ h => h) (Or.inl ⟨by rfl, ?_⟩) hS0 ?_
  rotate_left
  · intro w' hSw
    have y0 := (hSw.cell (p := ⟨g, 3, none⟩) lg2 ng2).trans x3
    try simp only [List.getElem_toArray, List.getElem_cons_zero, List.getElem_cons_succ]
    go_simp
    exact rfl
  try simp only [Act.put, List.setIfInBounds_toArray, List.set_cons_zero, List.set_cons_succ, List.getElem_toArray, List.getElem_cons_zero, List.getElem_cons_succ]
  refine mix.D_take (i := 4) (v := ?_) rfl (by kernel_rfl) (by kernel_rfl) (fun _ _ _ h => h) (Or.inl ⟨by rfl, ?_⟩) hS0 ?_
  rotate_left
  · intro w' hSw
    have y0 := (hSw.cell (p := ⟨g, 3, none⟩) lg2 ng2).trans x3
    try simp only [List.getElem_toArray, List.getElem_cons_zero, List.getElem_cons_succ]
    go_simp
    exact rfl
  try simp only [Act.put, List.setIfInBounds_toArray, List.set_cons_zero, List.set_cons_succ, List.getElem_toArray, List.getElem_cons_zero, List.getElem_cons_succ]
  refine mix.D_take (i := 5) (v := ?_) rfl (by kernel_rfl) (by kernel_rfl) (fun _ _ _ h => h) (Or.inl ⟨by rfl, ?_⟩) hS0 ?_
  rotate_left
  · intro w' hSw
    have y0 := (hSw.cell (p := ⟨g, 3, none⟩) lg2 ng2).trans x3
    try simp only [List.getElem_toArray, List.getElem_cons_zero, List.getElem_cons_succ]
    go_simp
    exact rfl
  try simp only [Act.put, List.setIfInBounds_toArray, List.set_cons_zero, List.set_cons_succ, List.getElem_toArray, List.getElem_cons_zero, List.getElem_cons_succ]
  refine mix.D_take (i := 6) (v := ?_) rfl (by kernel_rfl) (by kernel_rfl) (fun _ _ _ h => h) (Or.inl ⟨by rfl, ?_⟩) hS0 ?_
  rotate_left
  · intro w' hSw
    have y0 := (hSw.cell (p := ⟨g, 3, none⟩) lg2 ng2).trans x3
    try simp only [List.getElem_toArray, List.getElem_cons_zero, List.getElem_cons_succ]
    go_simp
    exact rfl
  try simp only [Act.put, List.setIfInBounds_toArray, List.set_cons_zero, List.set_cons_succ, List.getElem_toArray, List.getElem_cons_zero, List.getElem_cons_succ]
  refine mix.D_take (i := 7) (v := ?_) rfl (by kernel_rfl) (by kernel_rfl) (fun _ _ _ h => h) (Or.inl ⟨by rfl, ?_⟩) hS0 ?_
  rotate_left
  · intro w' hSw
    have y0 := (hSw.cell (p := ⟨g, 3, none⟩) lg2 ng2).trans x3
    try simp only [List.getElem_toArray, List.getElem_cons_zero, List.getElem_cons_succ]
    go_simp
    exact rfl
  try simp only [Act.put, List.setIfInBounds_toArray, List.set_cons_zero, List.set_cons_succ, List.getElem_toArray, List.getElem_cons_zero, List.getElem_cons_succ]
  refine mix.D_op (k := 8) rfl rfl (by kernel_rfl) (fun K' hK => ?_)
  simp only [List.getElem_toArray, List.getElem_cons_zero, List.getElem_cons_succ]
  go_wp2_with fail
  refine (clone_ok b w2d (by omega)).mono ?_
  rintro e wb1 ⟨rfl, hs1⟩
  have hb1 := hS0.seq hs1
  refine hK.out _ _ (fun _ => hb1) ?_
  clear hK K'
  try simp only [Act.put, List.setIfInBounds_toArray, List.set_cons_zero, List.set_cons_succ]
  refine mix.D_op (k := 9) rfl rfl (by kernel_rfl) (fun K' hK => ?_)
  simp only [List.getElem_toArray, List.getElem_cons_zero, List.getElem_cons_succ]
  go_wp2_with fail
  refine hK.out _ _ (fun _ => hb1) ?_
  clear hK K'
  try simp only [Act.put, List.setIfInBounds_toArray, List.set_cons_zero, List.set_cons_succ]
  refine mix.D_op (k := 10) rfl rfl (by kernel_rfl) (fun K' hK => ?_)
  simp only [List.getElem_toArray, List.getElem_cons_zero, List.getElem_cons_succ]
  go_wp2_with fail
  have hs2 : Below wb1.heap.size wb1 (wb1.alloc (.cells #[.int .i64 (j : Int), .int .i64 (o : Int), .string b] 263)) := (Below.refl _ _).alloc (Nat.le_refl _) _
  have hb2 := hb1.seq hs2
  refine hK.out _ _ (fun _ => hb2) ?_
  clear hK K'
  try simp only [Act.put, List.setIfInBounds_toArray, List.set_cons_zero, List.set_cons_succ]
  refine mix.D_op (k := 11) rfl rfl (by kernel_rfl) (fun K' hK => ?_)
  simp only [List.getElem_toArray, List.getElem_cons_zero, List.getElem_cons_succ]
  refine wp_put1 Try.underlying132 hj0 hy0 hy1 hy2 rfl (by decide) (.tmp 64) (.tmp 70) rfl (w := wb1) (v := .slice PA m.past.length pc) (n := m.past.length) (xs := cellsR m.past) (row_below hpst ((hS1.trans (hs1.mono hS1.size)))) rfl rfl (by intro u hu; simp at hu; rcases hu with rfl | rfl | rfl <;> rfl) rfl rfl (by omega) (by unfold maxLen; omega) ?_
  intro v8 w8 ho8 hK8 hv8 hs8
  obtain ⟨A8, c8, rfl, _, _, _⟩ := row_rdF ho8
  have hb8 := hb1.trans hK8 (fun g hg _ => hg)
  refine hK.out _ _ (fun _ => hb8) ?_
  clear hK K'
  try simp only [Act.put, List.setIfInBounds_toArray, List.set_cons_zero, List.set_cons_succ]
  refine mix.D_op (k := 12) rfl rfl (by kernel_rfl) (fun K' hK => ?_)
  simp only [List.getElem_toArray, List.getElem_cons_zero, List.getElem_cons_succ]
  go_wp2_with fail
  refine hK.out _ _ (fun h => by simp at h) ?_
  clear hK K'
  try simp only [Act.put, List.setIfInBounds_toArray, List.set_cons_zero, List.set_cons_succ]
  refine mix.D_op (k := 13) rfl rfl (by kernel_rfl) (fun K' hK => ?_)
  simp only [List.getElem_toArray, List.getElem_cons_zero, List.getElem_cons_succ]
  go_wp2_with fail
  refine hK.out _ _ (fun h => by simp at h) ?_
  clear hK K'
  try simp only [Act.put, List.setIfInBounds_toArray, List.set_cons_zero, List.set_cons_succ]
  refine mix.D_op (k := 14) rfl rfl (by kernel_rfl) (fun K' hK => ?_)
  simp only [List.getElem_toArray, List.getElem_cons_zero, List.getElem_cons_succ]
  have kg := hK8.blk (Blk.below h2.head (hS1.trans (hs1.mono hS1.size)) lg2) ng2
  have xg := kg.cell 3
  have fg := kg.frozen 3
  simp only [List.getElem?_toArray, List.getElem?_cons_zero, List.getElem?_cons_succ] at xg
  go_wp2_with fail
  refine hK.out _ _ (fun h => by simp at h) ?_
  clear hK K' kg xg fg
  refine mix.D_done (by kernel_rfl) ?_ _
  have hpl2 : m2.past = m.past := by rw [hm2]
  obtain ⟨h3, kp3⟩ := h2.put_past (x := ⟨(j : Int), (o : Int), b⟩) hb8 (by rw [hpl2]; exact ho8) (fun k hk => by
    rcases hv8 k hk with e | e
    · exact .inl e
    · have := hS1.size; have := hs1.size; exact .inr ⟨by omega, e.2⟩) (by rw [hpl2]; exact hl)
  have hz8 : (w8.setCell ⟨g, 3, none⟩ (.slice A8 (m.past.length + 1) c8)).heap.size = w8.heap.size := by simp
  generalize w8.setCell ⟨g, 3, none⟩ (.slice A8 (m.past.length + 1) c8) = w3 at *
  have z1 := s1.size
  have z2 := kp2.size
  have q1 := h1.lt
  have kf : Blk w3 p 219 (PC (spL L) (wSp L W)) := kp3.blk (kp2.blk k1 h1.notp) h2.notp
  have hm3 : ({ m2 with past := m2.past ++ [⟨(j : Int), (o : Int), b⟩] } : MS) = putM m j o b := by rw [hm2]; unfold putM; rw [HSJ.out]
  rw [hm3] at h3
  have kA : Keep (fun k => S k ∨ k = p) w' w1 := s1.keep.mono fun k hk _ => .inr hk
  have kB : Keep (fun k => S k ∨ k = p) w' w3 := (kA.trans kp2 (fun k hk _ => .inl hk)).trans kp3 (fun k hk hlt => by
    rw [hS2] at hk
    rcases hk with e | e
    · exact .inl e
    · omega)
  go_wp2_with fail
  go_ret
  refine ⟨rfl, _, fun k hk => ?_, ⟨_, _, _, h3⟩, kf, kB⟩
  rcases hk with e | e
  · rw [hS2] at e
    rcases e with e | e
    · exact .inl e
    · exact .inr (by omega)
  · exact .inr (by omega)
/-- what Write answers -/
def wrE (m : MS) (L : Int) (g o : Int) (b : ByteArray) : Int := if refE m g o b = 0 then eSp L else refE m g o b
/-- what Write leaves -/
def WrPost (S : Nat → Prop) (p g : Nat) (m : MS) (L W : Int) (sg o : Int) (b : ByteArray) (w : World) (e : Ending) (w' : World) : Prop :=
  e = .returned (.int .i64 (wrE m L sg o b)) ∧ ∃ S', (∀ k, S' k → S k ∨ w.heap.size ≤ k) ∧ Md w' S' p g (if refE m sg o b = 0 ∧ L ≠ 0 then putM m sg.toNat o.toNat b else m) ∧
    Blk w' p 219 (if refE m sg o b = 0 then PC (spL L) (wSp L W) else PC L W) ∧ Keep (fun k => S k ∨ k = p) w w'
theorem write_ok (h : MdAt w S p g m sb vs vp) (hp : Blk w p 219 (PC L W)) (hI : In L) (sg o : Int) (b : ByteArray) (hl : (m.past.length + 1) * 32 ≤ 140737488355328) :
    Calls Try.prog 99 #[.pointer (some ⟨g, 0, none⟩), .int .i64 sg, .int .i64 o, .string b] w (WrPost S p g m L W sg o b w) := by
  have hlen := h.len
  have same : ∀ c, c ≠ 0 → refE m sg o b = c → ∀ e w', (e = .returned (.int .i64 c) ∧ w' = w) → WrPost S p g m L W sg o b w e w' := by
    rintro c hc hr e w' ⟨rfl, rfl⟩
    have hn : ¬ refE m sg o b = 0 := by rw [hr]; exact hc
    refine ⟨by unfold wrE; rw [if_neg hn, hr], S, fun k hk => .inl hk, ?_, ?_, Keep.refl _ _⟩
    · rw [if_neg (fun x => hn x.1)]; exact ⟨_, _, _, h⟩
    · rw [if_neg hn]; exact hp
  by_cases hj : 0 ≤ sg ∧ sg < (vs.length : Int)
  · obtain ⟨j, rfl⟩ := Int.eq_ofNat_of_zero_le hj.1
    have hj' : j < vs.length := by omega
    have ht : ((j : Int)).toNat = j := Int.toNat_natCast j
    by_cases h1 : o < 0 ∨ ((m.at_ j).size : Int) < o
    · refine (write_place h j hj' o b h1).mono (same 121 (by decide) ?_)
      unfold refE
      rw [if_pos (by omega), ht, if_pos h1]
    · obtain ⟨o', rfl⟩ := Int.eq_ofNat_of_zero_le (show 0 ≤ o by omega)
      have h1' : o' ≤ (m.at_ j).size := by omega
      by_cases h2 : (m.size : Int) - (o' : Int) < (b.size : Int)
      · refine (write_room h j hj' o' b h1' h2).mono (same 122 (by decide) ?_)
        unfold refE
        rw [if_pos (by omega), ht, if_neg h1, if_pos h2]
      · have hr : refE m (j : Int) (o' : Int) b = 0 := by
          unfold refE
          rw [if_pos (by omega), ht, if_neg h1, if_neg h2]
        by_cases hL : L = 0
        · refine (write_off h hp hI hL j hj' o' b h1' (by omega)).mono ?_
          rintro e w' ⟨rfl, hp', hs⟩
          refine ⟨by unfold wrE eSp; rw [if_pos hr, if_pos hL], S, fun k hk => .inl hk, ?_, ?_, hs.keep.mono fun k hk _ => .inr hk⟩
          · rw [if_neg (fun x => x.2 hL)]
            exact ⟨_, _, _, h.agree (fun k hk => hs.block k (h.lt k hk) (fun e => h.notp (e ▸ hk))) hs.size⟩
          · rw [if_pos hr]; exact hp'
        · refine (write_do h hp hI hL j hj' o' b h1' (by omega) hl).mono ?_
          rintro e w' ⟨rfl, S', h3, h4, h5, h6⟩
          refine ⟨by unfold wrE eSp; rw [if_pos hr, if_neg hL], S', h3, ?_, ?_, h6⟩
          · rw [if_pos ⟨hr, hL⟩, ht, Int.toNat_natCast]; exact h4
          · rw [if_pos hr]; exact h5
  · refine (write_seg h sg o b hj).mono (same 120 (by decide) ?_)
    unfold refE
    rw [if_neg (by omega)]
end
end Go.Proofs.Ytoenkkbcpafanaa.mediums
