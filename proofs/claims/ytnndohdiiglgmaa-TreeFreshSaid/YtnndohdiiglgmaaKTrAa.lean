/- tree.parts, halves, split. -/
import Derived.Test.YtnndohdiiglgmaaKTrJ
import Derived.Test.YtnndohdiiglgmaaKTrK
import Derived.Test.YtnndohdiiglgmaaKTrN


namespace Go.Proofs.Ytnndohdiiglgmaa.trees
set_option linter.unusedVariables false
set_option linter.unusedSimpArgs false
open Go.RowKit Go.Proofs.Ytnndohdiiglgmaa.base Go.Proofs.Ytnndohdiiglgmaa.vers Go.Proofs.Ytnndohdiiglgmaa.nodes Go.Proofs.Ytnndohdiiglgmaa.quotas

/-- how many parts a node has -/
def partsP (x : P3) : Nat := if x.1 then x.2.1.length else x.2.2.length
/-- two nodes of one -/
def halvesP (x : P3) : List P3 :=
  let k := (partsP x + 1) / 2
  if x.1 then [(true, x.2.1.take k, []), (true, x.2.1.drop k, [])] else [(false, [], x.2.2.take k), (false, [], x.2.2.drop k)]
def splitP (x : P3) : List P3 := if partsP x ≤ 4 then [x] else halvesP x
/-- nodes that a call answers: in a row of its own, their lists in memory of blocks F or of its own -/
def NPost (w : World) (F : Nat → Prop) (ps : List P3) (e : Ending) (w' : World) : Prop :=
  ∃ (l : List N) (A : Option Addr) (c : Nat), e = .returned (.slice A l.length c) ∧ l.map N.p = ps ∧ LF w' (fun g => F g ∨ (w.heap.size ≤ g ∧ g < w'.heap.size)) l A c ∧ Below w.heap.size w w'

theorem cellsK_one1 (l : List K) : ∀ u ∈ cellsK l, u.oneCell' = true := by
  induction l with
  | nil => intro u h; cases h
  | cons x l ih =>
    intro u h
    rcases List.mem_append.1 h with h | h
    · simp [K.cells] at h
      rcases h with rfl | rfl | rfl | rfl | rfl <;> rfl
    · exact ih u h
theorem cellsK_take : ∀ (l : List K) (i : Nat), cellsK (l.take i) = (cellsK l).take (i * 5)
  | [], i => by simp [cellsK]
  | x :: l, 0 => by simp [cellsK]
  | x :: l, i + 1 => by
    have hl : x.cells.length = 5 := rfl
    rw [List.take_succ_cons, cellsK, cellsK, cellsK_take l i, List.take_append, List.take_of_length_le (l := x.cells) (by rw [hl]; omega), hl, show (i + 1) * 5 - 5 = i * 5 by omega]
theorem cellsK_drop : ∀ (l : List K) (i : Nat), cellsK (l.drop i) = (cellsK l).drop (i * 5)
  | [], i => by simp [cellsK]
  | x :: l, 0 => by simp
  | x :: l, i + 1 => by
    have hl : x.cells.length = 5 := rfl
    rw [List.drop_succ_cons, cellsK, cellsK_drop l i, List.drop_append, show x.cells.drop ((i + 1) * 5) = [] from List.drop_eq_nil_of_le (by rw [hl]; omega), List.nil_append, hl, show (i + 1) * 5 - 5 = i * 5 by omega]
theorem own_es {w : World} {lo n : Nat} {v : Value} {l : List E} {F : Nat → Prop} (h : w.ownsRow lo 47 2 v n (cellsE l)) (hn : n = l.length) (hl : l.length * 40 ≤ 140737488355328) (hv : ∀ g, v.ownBlock = some g → F g) (hx : ∀ x ∈ l, VsF w F x.l x.A x.c ∧ x.s.size ≤ maxLen) : ∃ A c, v = .slice A l.length c ∧ EsF w F l A c := by
  subst hn
  obtain ⟨A, c, e, hc, hn, hr⟩ := row_rdF h
  exact ⟨A, c, e, hc, hl, hn, hr.mono hv, hx⟩
theorem own_ks {w : World} {lo n : Nat} {v : Value} {l : List K} {F : Nat → Prop} (h : w.ownsRow lo 66 5 v n (cellsK l)) (hn : n = l.length) (hl : l.length * 48 ≤ 140737488355328) (hv : ∀ g, v.ownBlock = some g → F g) (hx : ∀ x ∈ l, x.fits) : ∃ A c, v = .slice A l.length c ∧ KsF w F l A c := by
  subst hn
  obtain ⟨A, c, e, hc, hn, hr⟩ := row_rdF h
  exact ⟨A, c, e, hc, hl, hn, hr.mono hv, hx⟩

set_option maxRecDepth 100000 in
set_option maxHeartbeats 2000000 in
theorem parts_true (A : Option Addr) (n c : Nat) (Q : Option Addr) (m d : Nat) (w : World) :
    Calls Try.prog 86 #[.agg #[.bool true, .slice A n c, .slice Q m d]] w fun e w' => e = .returned (.int .i64 ((n : Nat) : Int)) ∧ Below w.heap.size w w' := by
  have b0 : Below w.heap.size w (w.alloc (.cells #[.bool true, .slice A n c, .slice Q m d] 60)) := (Below.refl _ _).alloc (Nat.le_refl _) _
  go_enter Try.func86, Try.ntmps86
  go_wp2_with fail
  go_ret
  exact ⟨rfl, b0⟩

set_option maxRecDepth 100000 in
set_option maxHeartbeats 2000000 in
theorem parts_false (A : Option Addr) (n c : Nat) (Q : Option Addr) (m d : Nat) (w : World) :
    Calls Try.prog 86 #[.agg #[.bool false, .slice A n c, .slice Q m d]] w fun e w' => e = .returned (.int .i64 ((m : Nat) : Int)) ∧ Below w.heap.size w w' := by
  have b0 : Below w.heap.size w (w.alloc (.cells #[.bool false, .slice A n c, .slice Q m d] 60)) := (Below.refl _ _).alloc (Nat.le_refl _) _
  go_enter Try.func86, Try.ntmps86
  go_wp2_with fail
  go_ret
  exact ⟨rfl, b0⟩

abbrev NPost' (w : World) (F : Nat → Prop) (es : List E) (ks : List K) (b : Bool) (A : Option Addr) (c : Nat) (Q : Option Addr) (m : Nat) : Prop := ∀ w1, Below w.heap.size w w1 → NPost w F [(b, es.map pe, ks)] (.returned (.slice (some ⟨w1.heap.size, 0, none⟩) 1 1)) (w1.alloc (.cells #[.bool b, .slice A es.length c, .slice Q ks.length m] 60))
theorem npost_one (es : List E) (ks : List K) (b : Bool) (A : Option Addr) (c : Nat) (Q : Option Addr) (m : Nat) (F : Nat → Prop) (w w1 : World) (hE : EsF w F es A c) (hK : KsF w F ks Q m) (hF : ∀ g, F g → g < w.heap.size) (hb : Below w.heap.size w w1) :
    NPost w F [(b, es.map pe, ks)] (.returned (.slice (some ⟨w1.heap.size, 0, none⟩) 1 1)) (w1.alloc (.cells #[.bool b, .slice A es.length c, .slice Q ks.length m] 60)) := by
  have kL := Blk.new w1 60 #[.bool b, .slice A es.length c, .slice Q ks.length m]
  have b3 : Below w1.heap.size w1 (w1.alloc (.cells #[.bool b, .slice A es.length c, .slice Q ks.length m] 60)) := (Below.refl _ _).alloc (Nat.le_refl _) _
  have s2 := hb.size
  have bw := hb.trans (b3.mono s2)
  refine ⟨[⟨b, es, ks, A, c, Q, m⟩], some ⟨w1.heap.size, 0, none⟩, 1, rfl, rfl, ⟨Nat.le_refl _, by simp, (fun e => by cases e), ?_, ?_⟩, bw⟩
  · intro j u hj
    refine ⟨w1.heap.size, 0, rfl, .inr ⟨by omega, by simp⟩, ?_⟩
    rw [Nat.zero_add, kL.cell, ← Array.getElem?_toList]
    exact hj
  · intro x hx'
    rw [List.mem_singleton.1 hx']
    exact ⟨(hE.agree (Agree.of_below bw hF)).mono fun g hg => .inl hg, (hK.agree (Agree.of_below bw hF)).mono fun g hg => .inl hg⟩
theorem npost_from {w w1 w2 : World} {F : Nat → Prop} {ps : List P3} {e : Ending} (hb : Below w.heap.size w w1) (hF : ∀ g, F g → g < w.heap.size) (h : NPost w1 F ps e w2) : NPost w F ps e w2 := by
  obtain ⟨l, A, c, rfl, h1, h2, h3⟩ := h
  have s := hb.size
  refine ⟨l, A, c, rfl, h1, ⟨h2.1, h2.2.1, h2.2.2.1, h2.2.2.2.1.mono fun g hg => ?_, fun x hx => (h2.2.2.2.2 x hx).mono fun g hg => ?_⟩, hb.trans (h3.mono s)⟩ <;>
  · rcases hg with hg | hg
    · exact .inl hg
    · exact .inr ⟨by omega, hg.2⟩

set_option maxRecDepth 100000 in
set_option maxHeartbeats 2000000 in
theorem halves_true (es : List E) (ks : List K) (A : Option Addr) (c : Nat) (Q : Option Addr) (m : Nat) (F : Nat → Prop) (w : World) (hE : EsF w F es A c) (hK : KsF w F ks Q m) (hF : ∀ g, F g → g < w.heap.size) (h2 : 2 ≤ es.length) :
    Calls Try.prog 90 #[.agg #[.bool true, .slice A es.length c, .slice Q ks.length m]] w (NPost w F (halvesP (true, es.map pe, ks))) := by
  obtain ⟨b, off, rfl⟩ : ∃ b off, A = some ⟨b, off, none⟩ := by
    obtain ⟨b, off, e, _⟩ := hE.2.2.2.1 0 _ (List.getElem?_eq_getElem (by rw [cellsE_len]; omega))
    exact ⟨b, off, e⟩
  have hc := hE.1
  have hl := hE.2.1
  have b0 : Below w.heap.size w (w.alloc (.cells #[.bool true, .slice (some ⟨b, off, none⟩) es.length c, .slice Q ks.length m] 60)) := (Below.refl _ _).alloc (Nat.le_refl _) _
  have kN := Blk.new w 60 #[.bool true, .slice (some ⟨b, off, none⟩) es.length c, .slice Q ks.length m]
  have hp : halvesP (true, es.map pe, ks) = (fun k => [(true, (es.take k).map pe, []), (true, (es.drop k).map pe, [])]) ((es.length + 1) / 2) := by
    simp [halvesP, partsP]
  rw [hp]
  obtain ⟨k, hk⟩ : ∃ k, k = (es.length + 1) / 2 := ⟨_, rfl⟩
  have hk2 : k < es.length := by omega
  have hki : ((es.length : Int) + 1) / 2 = (k : Int) := by omega
  rw [← hk]
  dsimp only
  have l1 : (es.take k).length = k := by rw [List.length_take]; omega
  have l2 : (es.drop k).length = es.length - k := by rw [List.length_drop]
  have m1 : ∀ x, x ∈ es.take k → x ∈ es := fun x h => List.mem_of_mem_take h
  have m2 : ∀ x, x ∈ es.drop k → x ∈ es := fun x h => List.mem_of_mem_drop h
  have q1 := cellsE_take es k
  have q2 := cellsE_drop es k
  generalize es.take k = E1 at l1 m1 q1 ⊢
  generalize es.drop k = E2 at l2 m2 q2 ⊢
  have n0 : IntKind.i64.wrap ((es.length : Int) + 1) = (es.length : Int) + 1 := IntWalk.i64_in _ (by omega)
  have n1 : ((es.length : Int) + 1).tdiv 2 = (k : Int) := by rw [Int.tdiv_eq_ediv_of_nonneg (by omega)]; exact hki
  have n2 : IntKind.i64.wrap (k : Int) = (k : Int) := IntWalk.i64_in _ (by omega)
  have hcut := fun w1 (hb : Below w.heap.size w w1) => cutE_any b off es.length c k (cellsE es) F w1 (by rw [cellsE_len]; omega) (hE.2.2.2.1.agree (Agree.of_below hb hF)) (fun g hg => by have := hF g hg; have := hb.size; omega) hk2 hc (cellsE_one es) hl
  clear hp
  have HKK := vers.lay hk
  clear hk hki
  go_enter Try.func90, Try.ntmps90
  go_wp2_with fail
  refine (parts_true _ _ _ _ _ _ _).mono ?_
  rintro e w1 ⟨rfl, hb1⟩
  have bw1 := b0.trans (hb1.mono b0.size)
  have kN1 := kN.below hb1 kN.lt
  have e0 := kN1.cell 0
  have e1 := kN1.cell 1
  have e2 := kN1.cell 2
  simp at e0 e1 e2
  have lN := kN1.lt
  go_wp2_with fail
  refine (hcut _ bw1).mono ?_
  rintro e w2 ⟨v1, v2, rfl, ho1, ho2, hne, hb2⟩
  have bw2 := bw1.trans (hb2.mono bw1.size)
  rw [← q1] at ho1
  rw [← q2] at ho2
  have G1 : ∀ g, v1.ownBlock = some g → F g ∨ (w.heap.size ≤ g ∧ g < w2.heap.size) := fun g hg => .inr ⟨by have := ho1.lt g hg; have := bw1.size; omega, (ho1.lt g hg).2⟩
  have G2 : ∀ g, v2.ownBlock = some g → F g ∨ (w.heap.size ≤ g ∧ g < w2.heap.size) := fun g hg => .inr ⟨by have := ho2.lt g hg; have := bw1.size; omega, (ho2.lt g hg).2⟩
  have hx : ∀ x ∈ es, VsF w2 (fun g => F g ∨ (w.heap.size ≤ g ∧ g < w2.heap.size)) x.l x.A x.c ∧ x.s.size ≤ maxLen := fun x hx => ⟨((hE.2.2.2.2 x hx).1.agree (Agree.of_below bw2 hF)).mono fun g hg => .inl hg, (hE.2.2.2.2 x hx).2⟩
  obtain ⟨A1, c1, rfl, hE1⟩ := own_es ho1 (by omega) (by omega) G1 (fun x h => hx x (m1 x h))
  obtain ⟨A2, c2, rfl, hE2⟩ := own_es ho2 (by omega) (by omega) G2 (fun x h => hx x (m2 x h))
  have kL := Blk.new w2 60 #[.bool true, .slice A1 E1.length c1, .slice none 0 0, .bool true, .slice A2 E2.length c2, .slice none 0 0]
  have b3 : Below w2.heap.size w2 (w2.alloc (.cells #[.bool true, .slice A1 E1.length c1, .slice none 0 0, .bool true, .slice A2 E2.length c2, .slice none 0 0] 60)) := (Below.refl _ _).alloc (Nat.le_refl _) _
  have hout : NPost w F [(true, E1.map pe, []), (true, E2.map pe, [])] (.returned (.slice (some ⟨w2.heap.size, 0, none⟩) 2 2)) (w2.alloc (.cells #[.bool true, .slice A1 E1.length c1, .slice none 0 0, .bool true, .slice A2 E2.length c2, .slice none 0 0] 60)) := by
    have s2 := bw2.size
    have hA : Agree w2 (w2.alloc (.cells #[.bool true, .slice A1 E1.length c1, .slice none 0 0, .bool true, .slice A2 E2.length c2, .slice none 0 0] 60)) (fun g => F g ∨ (w.heap.size ≤ g ∧ g < w2.heap.size)) := Agree.of_below b3 fun g hg => by
      rcases hg with hg | hg
      · have := hF g hg; omega
      · exact hg.2
    have hm : ∀ g, (F g ∨ (w.heap.size ≤ g ∧ g < w2.heap.size)) → (F g ∨ (w.heap.size ≤ g ∧ g < (w2.alloc (.cells #[.bool true, .slice A1 E1.length c1, .slice none 0 0, .bool true, .slice A2 E2.length c2, .slice none 0 0] 60)).heap.size)) := fun g hg => by
      rcases hg with hg | hg
      · exact .inl hg
      · exact .inr ⟨hg.1, by simp; omega⟩
    refine ⟨[⟨true, E1, [], A1, c1, none, 0⟩, ⟨true, E2, [], A2, c2, none, 0⟩], some ⟨w2.heap.size, 0, none⟩, 2, rfl, rfl, ⟨Nat.le_refl _, by simp, (fun e => by cases e), ?_, ?_⟩, bw2.trans (b3.mono s2)⟩
    · intro j u hj
      refine ⟨w2.heap.size, 0, rfl, .inr ⟨by omega, by simp⟩, ?_⟩
      rw [Nat.zero_add, kL.cell, ← Array.getElem?_toList]
      exact hj
    · intro x hx'
      simp only [List.mem_cons, List.not_mem_nil, or_false] at hx'
      rcases hx' with rfl | rfl
      · exact ⟨(hE1.agree hA).mono hm, KsF.nil _ _⟩
      · exact ⟨(hE2.agree hA).mono hm, KsF.nil _ _⟩
  clear kL b3 hE1 hE2 hx G1 G2 ho1 ho2 hne hcut
  clear l1 l2 m1 m2 q1 q2
  go_wp2_with fail
  go_ret
  exact hout

set_option maxRecDepth 100000 in
set_option maxHeartbeats 2000000 in
theorem halves_false (es : List E) (ks : List K) (A : Option Addr) (c : Nat) (Q : Option Addr) (m : Nat) (F : Nat → Prop) (w : World) (hE : EsF w F es A c) (hK : KsF w F ks Q m) (hF : ∀ g, F g → g < w.heap.size) (h2 : 2 ≤ ks.length) :
    Calls Try.prog 90 #[.agg #[.bool false, .slice A es.length c, .slice Q ks.length m]] w (NPost w F (halvesP (false, es.map pe, ks))) := by
  obtain ⟨b, off, rfl⟩ : ∃ b off, Q = some ⟨b, off, none⟩ := by
    obtain ⟨b, off, e, _⟩ := hK.2.2.2.1 0 _ (List.getElem?_eq_getElem (by rw [cellsK_len]; omega))
    exact ⟨b, off, e⟩
  have hc := hK.1
  have hl := hK.2.1
  have b0 : Below w.heap.size w (w.alloc (.cells #[.bool false, .slice A es.length c, .slice (some ⟨b, off, none⟩) ks.length m] 60)) := (Below.refl _ _).alloc (Nat.le_refl _) _
  have kN := Blk.new w 60 #[.bool false, .slice A es.length c, .slice (some ⟨b, off, none⟩) ks.length m]
  have hp : halvesP (false, es.map pe, ks) = (fun k => [(false, [], ks.take k), (false, [], ks.drop k)]) ((ks.length + 1) / 2) := by
    simp [halvesP, partsP]
  rw [hp]
  obtain ⟨k, hk⟩ : ∃ k, k = (ks.length + 1) / 2 := ⟨_, rfl⟩
  have hk2 : k < ks.length := by omega
  have hki : ((ks.length : Int) + 1) / 2 = (k : Int) := by omega
  rw [← hk]
  dsimp only
  have l1 : (ks.take k).length = k := by rw [List.length_take]; omega
  have l2 : (ks.drop k).length = ks.length - k := by rw [List.length_drop]
  have m1 : ∀ x, x ∈ ks.take k → x ∈ ks := fun x h => List.mem_of_mem_take h
  have m2 : ∀ x, x ∈ ks.drop k → x ∈ ks := fun x h => List.mem_of_mem_drop h
  have q1 := cellsK_take ks k
  have q2 := cellsK_drop ks k
  generalize ks.take k = E1 at l1 m1 q1 ⊢
  generalize ks.drop k = E2 at l2 m2 q2 ⊢
  have n0 : IntKind.i64.wrap ((ks.length : Int) + 1) = (ks.length : Int) + 1 := IntWalk.i64_in _ (by omega)
  have n1 : ((ks.length : Int) + 1).tdiv 2 = (k : Int) := by rw [Int.tdiv_eq_ediv_of_nonneg (by omega)]; exact hki
  have n2 : IntKind.i64.wrap (k : Int) = (k : Int) := IntWalk.i64_in _ (by omega)
  have hcut := fun w1 (hb : Below w.heap.size w w1) => cutK_any b off ks.length m k (cellsK ks) F w1 (by rw [cellsK_len]; omega) (hK.2.2.2.1.agree (Agree.of_below hb hF)) (fun g hg => by have := hF g hg; have := hb.size; omega) hk2 hc (cellsK_one1 ks) hl
  clear hp
  have HKK := vers.lay hk
  clear hk hki
  go_enter Try.func90, Try.ntmps90
  go_wp2_with fail
  refine (parts_false _ _ _ _ _ _ _).mono ?_
  rintro e w1 ⟨rfl, hb1⟩
  have bw1 := b0.trans (hb1.mono b0.size)
  have kN1 := kN.below hb1 kN.lt
  have e0 := kN1.cell 0
  have e1 := kN1.cell 1
  have e2 := kN1.cell 2
  simp at e0 e1 e2
  have lN := kN1.lt
  go_wp2_with fail
  refine (hcut _ bw1).mono ?_
  rintro e w2 ⟨v1, v2, rfl, ho1, ho2, hne, hb2⟩
  have bw2 := bw1.trans (hb2.mono bw1.size)
  rw [← q1] at ho1
  rw [← q2] at ho2
  have G1 : ∀ g, v1.ownBlock = some g → F g ∨ (w.heap.size ≤ g ∧ g < w2.heap.size) := fun g hg => .inr ⟨by have := ho1.lt g hg; have := bw1.size; omega, (ho1.lt g hg).2⟩
  have G2 : ∀ g, v2.ownBlock = some g → F g ∨ (w.heap.size ≤ g ∧ g < w2.heap.size) := fun g hg => .inr ⟨by have := ho2.lt g hg; have := bw1.size; omega, (ho2.lt g hg).2⟩
  have hx : ∀ x ∈ ks, x.fits := hK.2.2.2.2
  obtain ⟨A1, c1, rfl, hE1⟩ := own_ks ho1 (by omega) (by omega) G1 (fun x h => hx x (m1 x h))
  obtain ⟨A2, c2, rfl, hE2⟩ := own_ks ho2 (by omega) (by omega) G2 (fun x h => hx x (m2 x h))
  have kL := Blk.new w2 60 #[.bool false, .slice none 0 0, .slice A1 E1.length c1, .bool false, .slice none 0 0, .slice A2 E2.length c2]
  have b3 : Below w2.heap.size w2 (w2.alloc (.cells #[.bool false, .slice none 0 0, .slice A1 E1.length c1, .bool false, .slice none 0 0, .slice A2 E2.length c2] 60)) := (Below.refl _ _).alloc (Nat.le_refl _) _
  have hout : NPost w F [(false, [], E1), (false, [], E2)] (.returned (.slice (some ⟨w2.heap.size, 0, none⟩) 2 2)) (w2.alloc (.cells #[.bool false, .slice none 0 0, .slice A1 E1.length c1, .bool false, .slice none 0 0, .slice A2 E2.length c2] 60)) := by
    have s2 := bw2.size
    have hA : Agree w2 (w2.alloc (.cells #[.bool false, .slice none 0 0, .slice A1 E1.length c1, .bool false, .slice none 0 0, .slice A2 E2.length c2] 60)) (fun g => F g ∨ (w.heap.size ≤ g ∧ g < w2.heap.size)) := Agree.of_below b3 fun g hg => by
      rcases hg with hg | hg
      · have := hF g hg; omega
      · exact hg.2
    have hm : ∀ g, (F g ∨ (w.heap.size ≤ g ∧ g < w2.heap.size)) → (F g ∨ (w.heap.size ≤ g ∧ g < (w2.alloc (.cells #[.bool false, .slice none 0 0, .slice A1 E1.length c1, .bool false, .slice none 0 0, .slice A2 E2.length c2] 60)).heap.size)) := fun g hg => by
      rcases hg with hg | hg
      · exact .inl hg
      · exact .inr ⟨hg.1, by simp; omega⟩
    refine ⟨[⟨false, [], E1, none, 0, A1, c1⟩, ⟨false, [], E2, none, 0, A2, c2⟩], some ⟨w2.heap.size, 0, none⟩, 2, rfl, rfl, ⟨Nat.le_refl _, by simp, (fun e => by cases e), ?_, ?_⟩, bw2.trans (b3.mono s2)⟩
    · intro j u hj
      refine ⟨w2.heap.size, 0, rfl, .inr ⟨by omega, by simp⟩, ?_⟩
      rw [Nat.zero_add, kL.cell, ← Array.getElem?_toList]
      exact hj
    · intro x hx'
      simp only [List.mem_cons, List.not_mem_nil, or_false] at hx'
      rcases hx' with rfl | rfl
      · exact ⟨EsF.nil _ _, (hE1.agree hA).mono hm⟩
      · exact ⟨EsF.nil _ _, (hE2.agree hA).mono hm⟩
  clear kL b3 hE1 hE2 hx G1 G2 ho1 ho2 hne hcut
  clear l1 l2 m1 m2 q1 q2
  go_wp2_with fail
  go_ret
  exact hout

set_option maxRecDepth 100000 in
set_option maxHeartbeats 2000000 in
theorem split_true (es : List E) (ks : List K) (A : Option Addr) (c : Nat) (Q : Option Addr) (m : Nat) (F : Nat → Prop) (w : World) (hE : EsF w F es A c) (hK : KsF w F ks Q m) (hF : ∀ g, F g → g < w.heap.size) :
    Calls Try.prog 60 #[.agg #[.bool true, .slice A es.length c, .slice Q ks.length m]] w (NPost w F (splitP (true, es.map pe, ks))) := by
  have b0 : Below w.heap.size w (w.alloc (.cells #[.bool true, .slice A es.length c, .slice Q ks.length m] 60)) := (Below.refl _ _).alloc (Nat.le_refl _) _
  have kN := Blk.new w 60 #[.bool true, .slice A es.length c, .slice Q ks.length m]
  by_cases h4 : es.length ≤ 4
  · have hs : splitP (true, es.map pe, ks) = [(true, es.map pe, ks)] := by simp [splitP, partsP, h4]
    rw [hs]
    have h5 : ((es.length : Nat) : Int) ≤ 4 := by omega
    have HP : NPost' w F es ks true A c Q m := fun w1 hb => npost_one es ks true A c Q m F w w1 hE hK hF hb
    clear hs h4
    go_enter Try.func60, Try.ntmps60
    go_wp2_with fail
    refine (parts_true _ _ _ _ _ _ _).mono ?_
    rintro e w1 ⟨rfl, hb1⟩
    have bw1 := b0.trans (hb1.mono b0.size)
    have kN1 := kN.below hb1 kN.lt
    have e0 := kN1.cell 0
    have e1 := kN1.cell 1
    have e2 := kN1.cell 2
    simp at e0 e1 e2
    have lN := kN1.lt
    have hout := HP w1 bw1
    clear HP
    go_wp2_with fail
    go_ret
    exact hout
  · have hs : splitP (true, es.map pe, ks) = halvesP (true, es.map pe, ks) := by simp [splitP, partsP, h4]
    rw [hs]
    have h5 : ¬ ((es.length : Nat) : Int) ≤ 4 := by omega
    have hH := fun w1 (hb : Below w.heap.size w w1) => halves_true es ks A c Q m F w1 (hE.agree (Agree.of_below hb hF)) (hK.agree (Agree.of_below hb hF)) (fun g hg => by have := hF g hg; have := hb.size; omega) (by omega)
    clear hs h4
    go_enter Try.func60, Try.ntmps60
    go_wp2_with fail
    refine (parts_true _ _ _ _ _ _ _).mono ?_
    rintro e w1 ⟨rfl, hb1⟩
    have bw1 := b0.trans (hb1.mono b0.size)
    have kN1 := kN.below hb1 kN.lt
    have e0 := kN1.cell 0
    have e1 := kN1.cell 1
    have e2 := kN1.cell 2
    simp at e0 e1 e2
    have lN := kN1.lt
    go_wp2_with fail
    refine (hH _ bw1).mono ?_
    rintro e w2 hN
    have hN := npost_from bw1 hF hN
    obtain ⟨l, A9, c9, rfl, h1, h2, h3⟩ := hN
    go_wp2_with fail
    go_ret
    exact ⟨l, A9, c9, rfl, h1, h2, h3⟩

set_option maxRecDepth 100000 in
set_option maxHeartbeats 2000000 in
theorem split_false (es : List E) (ks : List K) (A : Option Addr) (c : Nat) (Q : Option Addr) (m : Nat) (F : Nat → Prop) (w : World) (hE : EsF w F es A c) (hK : KsF w F ks Q m) (hF : ∀ g, F g → g < w.heap.size) :
    Calls Try.prog 60 #[.agg #[.bool false, .slice A es.length c, .slice Q ks.length m]] w (NPost w F (splitP (false, es.map pe, ks))) := by
  have b0 : Below w.heap.size w (w.alloc (.cells #[.bool false, .slice A es.length c, .slice Q ks.length m] 60)) := (Below.refl _ _).alloc (Nat.le_refl _) _
  have kN := Blk.new w 60 #[.bool false, .slice A es.length c, .slice Q ks.length m]
  by_cases h4 : ks.length ≤ 4
  · have hs : splitP (false, es.map pe, ks) = [(false, es.map pe, ks)] := by simp [splitP, partsP, h4]
    rw [hs]
    have h5 : ((ks.length : Nat) : Int) ≤ 4 := by omega
    have HP : NPost' w F es ks false A c Q m := fun w1 hb => npost_one es ks false A c Q m F w w1 hE hK hF hb
    clear hs h4
    go_enter Try.func60, Try.ntmps60
    go_wp2_with fail
    refine (parts_false _ _ _ _ _ _ _).mono ?_
    rintro e w1 ⟨rfl, hb1⟩
    have bw1 := b0.trans (hb1.mono b0.size)
    have kN1 := kN.below hb1 kN.lt
    have e0 := kN1.cell 0
    have e1 := kN1.cell 1
    have e2 := kN1.cell 2
    simp at e0 e1 e2
    have lN := kN1.lt
    have hout := HP w1 bw1
    clear HP
    go_wp2_with fail
    go_ret
    exact hout
  · have hs : splitP (false, es.map pe, ks) = halvesP (false, es.map pe, ks) := by simp [splitP, partsP, h4]
    rw [hs]
    have h5 : ¬ ((ks.length : Nat) : Int) ≤ 4 := by omega
    have hH := fun w1 (hb : Below w.heap.size w w1) => halves_false es ks A c Q m F w1 (hE.agree (Agree.of_below hb hF)) (hK.agree (Agree.of_below hb hF)) (fun g hg => by have := hF g hg; have := hb.size; omega) (by omega)
    clear hs h4
    go_enter Try.func60, Try.ntmps60
    go_wp2_with fail
    refine (parts_false _ _ _ _ _ _ _).mono ?_
    rintro e w1 ⟨rfl, hb1⟩
    have bw1 := b0.trans (hb1.mono b0.size)
    have kN1 := kN.below hb1 kN.lt
    have e0 := kN1.cell 0
    have e1 := kN1.cell 1
    have e2 := kN1.cell 2
    simp at e0 e1 e2
    have lN := kN1.lt
    go_wp2_with fail
    refine (hH _ bw1).mono ?_
    rintro e w2 hN
    have hN := npost_from bw1 hF hN
    obtain ⟨l, A9, c9, rfl, h1, h2, h3⟩ := hN
    go_wp2_with fail
    go_ret
    exact ⟨l, A9, c9, rfl, h1, h2, h3⟩

set_option maxRecDepth 100000 in
set_option maxHeartbeats 2000000 in
theorem split_any (x : N) (F : Nat → Prop) (w : World) (hx : NsF w F x) (hF : ∀ g, F g → g < w.heap.size) :
    Calls Try.prog 60 #[x.val] w (NPost w F (splitP x.p)) := by
  obtain ⟨lf, es, ks, A, c, Q, m⟩ := x
  cases lf with
  | true => exact split_true es ks A c Q m F w hx.1 hx.2 hF
  | false => exact split_false es ks A c Q m F w hx.1 hx.2 hF

end Go.Proofs.Ytnndohdiiglgmaa.trees

/- slices.Grow of none, slices.Concat of three lists. -/

namespace Go.Proofs.Ytnndohdiiglgmaa.trees
set_option linter.unusedVariables false
set_option linter.unusedSimpArgs false
open Go.RowKit Go.Proofs.Ytnndohdiiglgmaa.base Go.Proofs.Ytnndohdiiglgmaa.vers Go.Proofs.Ytnndohdiiglgmaa.nodes Go.Proofs.Ytnndohdiiglgmaa.quotas

/-- a list in memory of blocks F, as a value -/
structure Lst (w : World) (F : Nat → Prop) (k : Nat) (A : Option Addr) (n c : Nat) (xs : List Value) : Prop where
  len : xs.length = n * k
  cap : n ≤ c
  nil : A = none → c = 0
  rd : RdF w F A xs
  one : ∀ u ∈ xs, u.oneCell' = true
theorem Lst.agree {w w' : World} {F : Nat → Prop} {k : Nat} {A : Option Addr} {n c : Nat} {xs : List Value} (h : Lst w F k A n c xs) (hk : Agree w w' F) : Lst w' F k A n c xs := ⟨h.len, h.cap, h.nil, h.rd.agree hk, h.one⟩

set_option maxRecDepth 100000 in
set_option maxHeartbeats 4000000 in
theorem growK (n : Nat) (w : World) (hn : n * 48 ≤ 140737488355328) :
    Calls Try.prog 127 #[.slice none 0 0, .int .i64 (n : Int)] w fun e w' => ∃ v, e = .returned v ∧ w'.ownsRow w.heap.size 66 5 v 0 [] ∧ Below w.heap.size w w' := by
  obtain ⟨i0, hi0, hz0, hz1, hz2⟩ := info_parts infoK
  rcases Nat.eq_zero_or_pos n with rfl | hp
  · go_enter Try.func127, Try.ntmps127
    go_wp2_with fail
    go_ret
    exact ⟨_, rfl, ⟨rfl, .inl ⟨rfl, rfl⟩⟩, Below.refl _ _⟩
  · have hC := grownCap_ge w (0 + n) 0 66
    have hCm := grownCap_le_maxLen w (0 + n) 0 66 (by unfold maxLen; omega)
    have happ := fun ty => run_append_zeros w 58 3 ty 66 i0 _ .i64 .i64 Try.underlying58 Try.underlying3 hi0 hz0 none 0 0 [] (by rw [hz1]; exact run_firstCells_none w.drew 5 0 0 0) n hp (by rw [hz1]; omega) (by omega) (by omega) (by rw [hz2]; omega) (by rw [hz2]; exact growslice_fits (by omega) (by omega))
    have hzs := zeroCells_size
    generalize grownCap w (0 + n) 0 66 = C at happ hC hCm
    rw [Nat.zero_add] at happ hC
    obtain ⟨cur, hcur⟩ : ∃ cur, cur = (([] : List Value).toArray ++ Builtin.zeroCells (i0.zero.getD undef).cells n ++ Builtin.zeroCells (i0.zero.getD undef).cells (C - n)) := ⟨_, rfl⟩
    rw [hz0] at hcur
    simp only [Option.getD_some] at hcur
    rw [← hcur] at happ
    have hcs : cur.size = C * 5 := by
      have e : n + (C - n) = C := by omega
      rw [hcur]
      simp only [Array.size_append, zeroCells_size]
      rw [show (([] : List Value).toArray).size = 0 from rfl, Nat.zero_add, ← Nat.add_mul, e]
      rfl
    clear hcur hzs
    have kN := Blk.new w.drew 66 cur
    have bN : Below w.heap.size w (w.drew.alloc (.cells cur 66)) := (Below.refl _ _).drew.alloc (Nat.le_refl _) _
    have hout : (w.drew.alloc (.cells cur 66)).ownsRow w.heap.size 66 5 (.slice (some ⟨w.heap.size, 0, none⟩) 0 C) 0 [] := ⟨rfl, .inr ⟨w.heap.size, C, cur, rfl, Nat.le_refl _, kN, Nat.zero_le _, hCm, hcs, by simp⟩⟩
    have n1 : (0 : Int) < (n : Int) := by omega
    clear kN
    generalize w.drew.alloc (.cells cur 66) = w1 at happ bN hout
    go_enter Try.func127, Try.ntmps127
    go_wp2_with (at_builtin; refine wpList_append_known _ rfl _ _ _ _ rfl _ _ rfl rfl _ _ (happ _) ?_)
    go_ret
    exact ⟨_, rfl, hout, bN⟩

/-- what was put together so far -/
def CCK (w : World) (lo : Nat) (v : Value) (n : Nat) (xs : List Value) (wr : World) : Prop := wr.ownsRow 0 66 5 v n xs ∧ (∀ q, v.ownBlock = some q → lo ≤ q) ∧ Below lo w wr
theorem CCK.next {w w1 w2 : World} {v v' : Value} {n n' : Nat} {xs xs' : List Value} (h : CCK w w.heap.size v n xs w1) (ho : w2.ownsRow 0 66 5 v' n' xs') (hK : Keep (fun g => v.ownBlock = some g) w1 w2) (hv : ∀ g, v'.ownBlock = some g → v.ownBlock = some g ∨ (w1.heap.size ≤ g ∧ g < w2.heap.size)) : CCK w w.heap.size v' n' xs' w2 := by
  have s := h.2.2.size
  refine ⟨ho, fun q hq => ?_, h.2.2.trans (hK.below (fun g hg => h.2.1 g hg) s)⟩
  rcases hv q hq with h1 | h1
  · exact h.2.1 q h1
  · omega

set_option maxRecDepth 100000 in
set_option maxHeartbeats 4000000 in
theorem concatK (g : Nat) (A0 A1 A2 : Option Addr) (n0 n1 n2 c0 c1 c2 : Nat) (x0 x1 x2 : List Value) (F : Nat → Prop) (w : World) (kg : Blk w g 58 #[.slice A0 n0 c0, .slice A1 n1 c1, .slice A2 n2 c2])
    (h0 : Lst w F 5 A0 n0 c0 x0) (h1 : Lst w F 5 A1 n1 c1 x1) (h2 : Lst w F 5 A2 n2 c2 x2) (hF : ∀ g, F g → g < w.heap.size) (hn : (n0 + n1 + n2) * 48 ≤ 140737488355328) :
    Calls Try.prog 108 #[.slice (some ⟨g, 0, none⟩) 3 3] w fun e w' => ∃ v, e = .returned v ∧ w'.ownsRow w.heap.size 66 5 v (n0 + n1 + n2) (x0 ++ x1 ++ x2) ∧ Below w.heap.size w w' := by
  obtain ⟨i0, hi0, hz0, hz1, hz2⟩ := info_parts infoK
  have a0 := kg.cell 0
  have a1 := kg.cell 1
  have a2 := kg.cell 2
  simp at a0 a1 a2
  have lg := kg.lt
  have hgrow := growK (n0 + n1 + n2) w hn
  rw [show ((n0 + n1 + n2 : Nat) : Int) = (n0 : Int) + (n1 : Int) + (n2 : Int) by omega] at hgrow
  have w1 : IntKind.i64.wrap ((n0 : Int) + (n1 : Int)) = (n0 : Int) + (n1 : Int) := IntWalk.i64_in _ (by omega)
  have w2 : IntKind.i64.wrap ((n0 : Int) + (n1 : Int) + (n2 : Int)) = (n0 : Int) + (n1 : Int) + (n2 : Int) := IntWalk.i64_in _ (by omega)
  go_enter Try.func108, Try.ntmps108
  go_wp2_with fail
  go_loopw [3, 11] (fun s i wr => wr = w ∧ ((i = .int .i64 0 ∧ s = .int .i64 0) ∨ (i = .int .i64 1 ∧ s = .int .i64 (n0 : Int)) ∨ (i = .int .i64 2 ∧ s = .int .i64 ((n0 : Int) + (n1 : Int))) ∨ (i = .int .i64 3 ∧ s = .int .i64 ((n0 : Int) + (n1 : Int) + (n2 : Int))))) (fun _ i _ => 3 - (intOf i).toNat)
  case atStart => exact ⟨rfl, .inl ⟨rfl, rfl⟩⟩
  case round =>
    obtain ⟨rfl, hst⟩ := hrel
    rcases hst with ⟨rfl, rfl⟩ | ⟨rfl, rfl⟩ | ⟨rfl, rfl⟩ | ⟨rfl, rfl⟩
    · go_wp2_with fail
      exact ⟨⟨trivial, .inr (.inl ⟨rfl, rfl⟩)⟩, by simp [intOf]⟩
    · go_wp2_with fail
      exact ⟨⟨trivial, .inr (.inr (.inl ⟨rfl, rfl⟩))⟩, by simp [intOf]⟩
    · go_wp2_with fail
      exact ⟨⟨trivial, .inr (.inr (.inr ⟨rfl, rfl⟩))⟩, by simp [intOf]⟩
    · go_wp2_with fail
      refine hgrow.mono ?_
      rintro e w5 ⟨v5, rfl, ho5, hb5⟩
      have kg5 := kg.below hb5 kg.lt
      have hst : CCK wr wr.heap.size v5 0 [] w5 := ⟨ownsRow_base ho5 (fun q hq => Nat.zero_le _), fun q hq => (ho5.lt q hq).1, hb5⟩
      clear ho5 hgrow w1 w2
      go_wp2_with fail
      go_loopw [6, 27] (fun v i wx => (i = .int .i64 0 ∧ CCK wr wr.heap.size v 0 [] wx) ∨ (i = .int .i64 1 ∧ CCK wr wr.heap.size v n0 x0 wx) ∨ (i = .int .i64 2 ∧ CCK wr wr.heap.size v (n0 + n1) (x0 ++ x1) wx) ∨ (i = .int .i64 3 ∧ CCK wr wr.heap.size v (n0 + n1 + n2) (x0 ++ x1 ++ x2) wx)) (fun _ i _ => 3 - (intOf i).toNat)
      case atStart => exact .inl ⟨rfl, hst⟩
      case round =>
        clear hst
        rcases hrel with ⟨rfl, hC⟩ | ⟨rfl, hC⟩ | ⟨rfl, hC⟩ | ⟨rfl, hC⟩
        · have kgx := kg.below hC.2.2 kg.lt
          have a0 := kgx.cell 0
          have a1 := kgx.cell 1
          have a2 := kgx.cell 2
          simp at a0 a1 a2
          have lg := kgx.lt
          have hA := h0.agree (Agree.of_below hC.2.2 hF)
          go_wp2_with (at_builtin; refine wpList_bulk Try.underlying58 hi0 hz0 hz1 hz2 rfl (by decide) rfl (.tmp 31) (.tmp 32) rfl hC.1 rfl (m := n0) hA.len hA.rd.rd hA.nil hA.cap hA.one rfl (by omega) (by unfold maxLen; omega) ?_; intro v9 w9 ho9 hK9 hv9)
          refine ⟨.inr (.inl ⟨rfl, ?_⟩), by simp [intOf]⟩
          exact CCK.next hC (by simpa using ho9) hK9 hv9
        · have kgx := kg.below hC.2.2 kg.lt
          have a0 := kgx.cell 0
          have a1 := kgx.cell 1
          have a2 := kgx.cell 2
          simp at a0 a1 a2
          have lg := kgx.lt
          have hA := h1.agree (Agree.of_below hC.2.2 hF)
          go_wp2_with (at_builtin; refine wpList_bulk Try.underlying58 hi0 hz0 hz1 hz2 rfl (by decide) rfl (.tmp 31) (.tmp 32) rfl hC.1 rfl (m := n1) hA.len hA.rd.rd hA.nil hA.cap hA.one rfl (by omega) (by unfold maxLen; omega) ?_; intro v9 w9 ho9 hK9 hv9)
          refine ⟨.inr (.inr (.inl ⟨rfl, ?_⟩)), by simp [intOf]⟩
          exact CCK.next hC (ho9) hK9 hv9
        · have kgx := kg.below hC.2.2 kg.lt
          have a0 := kgx.cell 0
          have a1 := kgx.cell 1
          have a2 := kgx.cell 2
          simp at a0 a1 a2
          have lg := kgx.lt
          have hA := h2.agree (Agree.of_below hC.2.2 hF)
          go_wp2_with (at_builtin; refine wpList_bulk Try.underlying58 hi0 hz0 hz1 hz2 rfl (by decide) rfl (.tmp 31) (.tmp 32) rfl hC.1 rfl (m := n2) hA.len hA.rd.rd hA.nil hA.cap hA.one rfl (by omega) (by unfold maxLen; omega) ?_; intro v9 w9 ho9 hK9 hv9)
          refine ⟨.inr (.inr (.inr ⟨rfl, ?_⟩)), by simp [intOf]⟩
          exact CCK.next hC (ho9) hK9 hv9
        · go_wp2_with fail
          go_ret
          obtain ⟨h1', h2', h3'⟩ := hC
          exact ⟨_, rfl, ownsRow_base h1' h2', h3'⟩

end Go.Proofs.Ytnndohdiiglgmaa.trees
