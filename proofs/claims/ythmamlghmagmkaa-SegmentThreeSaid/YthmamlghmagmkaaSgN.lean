/- SegmentThree: what holds between two calls. -/
import Derived.Test.YthmamlghmagmkaaSgM


namespace Go.Proofs.Ythmamlghmagmkaa.segs
set_option linter.unusedVariables false
set_option linter.unusedSimpArgs false
open Go.RowKit Go.Shelf Go.Proofs.Ythmamlghmagmkaa.base Go.Proofs.Ythmamlghmagmkaa.trees Go.Proofs.Ythmamlghmagmkaa.powers Go.Proofs.Ythmamlghmagmkaa.mediums Go.Lib

theorem those_first {ac : List T3} {k : Int} {j : Nat} (h : first ac k = some j) : ∃ t, those ac k = j :: t := by
  obtain ⟨h1, h2, h3⟩ := first_some h
  have h0 : ∀ m, m ≤ j → thoseTo ac k m = [] := by
    intro m
    induction m with
    | zero => intro _; rfl
    | succ m ih => intro hm; rw [thoseTo_no (h3 m (by omega))]; exact ih (by omega)
  have hk : ∀ d, ∃ t, thoseTo ac k (j + 1 + d) = j :: t := by
    intro d
    induction d with
    | zero => exact ⟨[], by rw [Nat.add_zero, thoseTo_yes h2, h0 j (Nat.le_refl _)]; rfl⟩
    | succ d ih =>
      obtain ⟨t, e⟩ := ih
      by_cases hd : (at3 ac (j + 1 + d)).a = k
      · exact ⟨t ++ [j + 1 + d], by rw [show j + 1 + (d + 1) = (j + 1 + d) + 1 by omega, thoseTo_yes hd, e]; rfl⟩
      · exact ⟨t, by rw [show j + 1 + (d + 1) = (j + 1 + d) + 1 by omega, thoseTo_no hd, e]⟩
  obtain ⟨t, e⟩ := hk (ac.length - (j + 1))
  rw [show j + 1 + (ac.length - (j + 1)) = ac.length by omega, thoseTo_all] at e
  exact ⟨t, e⟩
/-- a log, what was appended (L), rows of places (l1) and of texts (l2) -/
structure Th (w1 w : World) (p g lg ab c n z pn : Nat) (m : MS) (s : LS) (L : List (T3 × ByteArray)) (l1 : List T3) (l2 : List ByteArray) (vp vt : Value) : Prop where
  sg : ∃ S W, Sg w1.heap.size w1 w S p g lg ab c m s (-1) W ∧ ∀ k, vp.ownBlock = some k ∨ vt.ownBlock = some k → ¬ SB4 S p lg ab k
  inv : InvM m s
  size : m.size = z
  segs : m.segs.length = n
  past : m.past.length ≤ pn
  cnt : L.length ≤ pn
  pl : PlP m s L
  own1 : w.ownsRow 0 95 3 vp l1.length (cellsJ l1)
  own2 : w.ownsRow 0 9 1 vt l2.length (sts l2)
  apart : ∀ k, vp.ownBlock = some k → vt.ownBlock ≠ some k
  lo : ∀ k, vp.ownBlock = some k ∨ vt.ownBlock = some k → w1.heap.size ≤ k
section
variable {w1 w w' : World} {p g lg ab c n z pn : Nat} {m : MS} {s : LS} {L : List (T3 × ByteArray)} {l1 : List T3} {l2 : List ByteArray} {vp vt : Value}
theorem Th.below (h : Th w1 w p g lg ab c n z pn m s L l1 l2 vp vt) (hb : Below w.heap.size w w') : Th w1 w' p g lg ab c n z pn m s L l1 l2 vp vt := by
  obtain ⟨S, W, h1, h2⟩ := h.sg
  exact ⟨⟨S, W, h1.below hb, h2⟩, h.inv, h.size, h.segs, h.past, h.cnt, h.pl, row_below h.own1 hb, row_below h.own2 hb, h.apart, h.lo⟩
theorem Th.hb (h : Th w1 w p g lg ab c n z pn m s L l1 l2 vp vt) : Below w1.heap.size w1 w := by
  obtain ⟨S, W, h1, h2⟩ := h.sg
  exact h1.hb
theorem Th.log (h : Th w1 w p g lg ab c n z pn m s L l1 l2 vp vt) : LgAt w g lg ab c s := by
  obtain ⟨S, W, h1, h2⟩ := h.sg
  exact h1.log
theorem Th.len (h : Th w1 w p g lg ab c n z pn m s L l1 l2 vp vt) : s.ac.length = n := h.inv.1.trans h.segs
theorem Th.more (h : Th w1 w p g lg ab c n z pn m s L l1 l2 vp vt) {pn' : Nat} (hp : pn ≤ pn') : Th w1 w p g lg ab c n z pn' m s L l1 l2 vp vt :=
  ⟨h.sg, h.inv, h.size, h.segs, Nat.le_trans h.past hp, Nat.le_trans h.cnt hp, h.pl, h.own1, h.own2, h.apart, h.lo⟩
theorem Th.new {S : Nat → Prop} {W : Int} (h : Sg w1.heap.size w1 w S p g lg ab c (newM n z) (newL n) (-1) W) (hn : 1 ≤ n) : Th w1 w p g lg ab c n z 0 (newM n z) (newL n) [] [] [] (.slice none 0 0) (.slice none 0 0) :=
  ⟨⟨S, W, h, fun k hk => by rcases hk with hk | hk <;> cases hk⟩, inv_new _ _ hn, rfl, by simp [newM], by simp [newM], Nat.le_refl _, PlP.nil _ _, World.ownsRow_nil _ _ _ _, World.ownsRow_nil _ _ _ _, (fun k hk => by cases hk), (fun k hk => by rcases hk with hk | hk <;> cases hk)⟩
/-- an append -/
theorem Th.append {u : World} (h0 : Th w1 u p g lg ab c n z pn m s L l1 l2 vp vt) (hb : Below u.heap.size u w) (hp : (pn + 1) * 32 ≤ 140737488355328) (b : ByteArray) (hbs : b.size ≤ 9223372036854775807) :
    Calls Try.prog 39 #[.pointer (some ⟨lg, 0, none⟩), .string b] w fun e w' => w.heap.size ≤ w'.heap.size ∧ Agree w w' (fun k => u.heap.size ≤ k ∧ k < w.heap.size) ∧
      ((∃ (v : T3) (E : Int), E ≠ 0 ∧ e = .returned (.tuple #[v.v, .int .i64 E]) ∧ Th w1 w' p g lg ab c n z pn m s L l1 l2 vp vt) ∨
       (∃ (j o : Nat) (v : T3), ApOn m s b j o ∧ v = ⟨(j : Int), (o : Int), (b.size : Int)⟩ ∧ e = .returned (.tuple #[v.v, .int .i64 0]) ∧ Th w1 w' p g lg ab c n z (pn + 1) (putM m j o b) (rollU s j b.size) (L ++ [(⟨(j : Int), (o : Int), (b.size : Int)⟩, b)]) l1 l2 vp vt)) := by
  have h := h0.below hb
  obtain ⟨S, W, h1, h2⟩ := h0.sg
  have hlt := h1.lt
  have h3 := h1.below hb
  have hpast := h.past
  refine (append_any h3 b hbs (by omega)).mono ?_
  rintro e w' ⟨rfl, S', T, hS', hk⟩
  have far : ∀ k, vp.ownBlock = some k ∨ vt.ownBlock = some k → ¬ SB4 S' p lg ab k := fun k hk2 hx => by
    have hkl : k < w.heap.size := by
      rcases hk2 with h | h
      · exact (World.ownsRow.lt (row_below h0.own1 hb) k h).2
      · exact (World.ownsRow.lt (row_below h0.own2 hb) k h).2
    rcases hx with hx | hx
    · rcases hS' k hx with hx | hx
      · exact h2 k hk2 (.inl hx)
      · omega
    · exact h2 k hk2 (.inr hx)
  have o1 : w'.ownsRow 0 95 3 vp l1.length (cellsJ l1) := ownsRow_agree h.own1 fun k hk2 => hk.block k (h.own1.lt k hk2).2 (h2 k (.inl hk2))
  have o2 : w'.ownsRow 0 9 1 vt l2.length (sts l2) := ownsRow_agree h.own2 fun k hk2 => hk.block k (h.own2.lt k hk2).2 (h2 k (.inr hk2))
  refine ⟨hk.size, fun k hk2 => hk.block k hk2.2 fun hx => by have := hlt k hx; omega, ?_⟩
  rcases ap_on h.log.ok h.inv b with ⟨hE, e1, e2, eM, eS, eL⟩ | ⟨_, j, o, A⟩
  · rw [eM, eS, eL] at T
    exact .inl ⟨zT, _, hE, by rw [e1, e2], ⟨⟨S', _, T, far⟩, h.inv, h.size, h.segs, h.past, h.cnt, h.pl, o1, o2, h.apart, h.lo⟩⟩
  · rw [A.M, A.S, A.L] at T
    refine .inr ⟨j, o, _, A, rfl, by rw [A.E, A.V], ⟨⟨S', _, T, far⟩, A.inv, h.size, by rw [putM_len]; exact h.segs, by rw [A.past]; omega, ?_, h.pl.app h.log.ok h.inv A, o1, o2, h.apart, h.lo⟩⟩
    rw [List.length_append, List.length_singleton]
    have := h.cnt
    omega
/-- a place more -/
theorem Th.push1 (h : Th w1 w p g lg ab c n z pn m s L l1 l2 vp vt) {x : T3} {v' : Value} (ho : w'.ownsRow 0 95 3 v' (l1 ++ [x]).length (cellsJ (l1 ++ [x]))) (hK : Keep (fun k => vp.ownBlock = some k) w w') (hv : ∀ k, v'.ownBlock = some k → vp.ownBlock = some k ∨ (w.heap.size ≤ k ∧ k < w'.heap.size)) :
    Th w1 w' p g lg ab c n z pn m s L (l1 ++ [x]) l2 v' vt := by
  obtain ⟨S, W, h1, h2⟩ := h.sg
  have hlt := h1.lt
  have hsz := h1.hb.size
  refine ⟨⟨S, W, h1.keep hK (fun k hS hk => h2 k (.inl hk) hS) (fun k hk => h.lo k (.inl hk)), fun k hk hx => ?_⟩, h.inv, h.size, h.segs, h.past, h.cnt, h.pl, ho, ownsRow_agree h.own2 fun k hk => hK.block k (h.own2.lt k hk).2 (fun e => h.apart k e hk), fun k hk hk2 => ?_, fun k hk => ?_⟩
  · have := hlt k hx
    rcases hk with hk | hk
    · rcases hv k hk with hk | hk
      · exact h2 k (.inl hk) hx
      · omega
    · exact h2 k (.inr hk) hx
  · have := (h.own2.lt k hk2).2
    rcases hv k hk with hk | hk
    · exact h.apart k hk hk2
    · omega
  · rcases hk with hk | hk
    · rcases hv k hk with hk | hk
      · exact h.lo k (.inl hk)
      · omega
    · exact h.lo k (.inr hk)
/-- a text more -/
theorem Th.push2 (h : Th w1 w p g lg ab c n z pn m s L l1 l2 vp vt) {x : ByteArray} {v' : Value} (ho : w'.ownsRow 0 9 1 v' (l2 ++ [x]).length (sts (l2 ++ [x]))) (hK : Keep (fun k => vt.ownBlock = some k) w w') (hv : ∀ k, v'.ownBlock = some k → vt.ownBlock = some k ∨ (w.heap.size ≤ k ∧ k < w'.heap.size)) :
    Th w1 w' p g lg ab c n z pn m s L l1 (l2 ++ [x]) vp v' := by
  obtain ⟨S, W, h1, h2⟩ := h.sg
  have hlt := h1.lt
  have hsz := h1.hb.size
  refine ⟨⟨S, W, h1.keep hK (fun k hS hk => h2 k (.inr hk) hS) (fun k hk => h.lo k (.inr hk)), fun k hk hx => ?_⟩, h.inv, h.size, h.segs, h.past, h.cnt, h.pl, ownsRow_agree h.own1 fun k hk => hK.block k (h.own1.lt k hk).2 (fun e => h.apart k hk e), ho, fun k hk hk2 => ?_, fun k hk => ?_⟩
  · have := hlt k hx
    rcases hk with hk | hk
    · exact h2 k (.inl hk) hx
    · rcases hv k hk with hk | hk
      · exact h2 k (.inr hk) hx
      · omega
  · have := (h.own1.lt k hk).2
    rcases hv k hk2 with hk2 | hk2
    · exact h.apart k hk hk2
    · omega
  · rcases hk with hk | hk
    · exact h.lo k (.inl hk)
    · rcases hv k hk with hk | hk
      · exact h.lo k (.inr hk)
      · omega
/-- Kp: rows of places and of texts that are new since u -/
structure Kp (u w : World) (l1 : List T3) (l2 : List ByteArray) (vp vt : Value) : Prop where
  hb : Below u.heap.size u w
  own1 : w.ownsRow 0 95 3 vp l1.length (cellsJ l1)
  own2 : w.ownsRow 0 9 1 vt l2.length (sts l2)
  apart : ∀ k, vp.ownBlock = some k → vt.ownBlock ≠ some k
  lo : ∀ k, vp.ownBlock = some k ∨ vt.ownBlock = some k → u.heap.size ≤ k
theorem Kp.nil (u : World) : Kp u u [] [] (.slice none 0 0) (.slice none 0 0) := ⟨Below.refl _ _, World.ownsRow_nil _ _ _ _, World.ownsRow_nil _ _ _ _, (fun k hk => by cases hk), (fun k hk => by rcases hk with hk | hk <;> cases hk)⟩
theorem Kp.below {u : World} (h : Kp u w l1 l2 vp vt) (hb : Below w.heap.size w w') : Kp u w' l1 l2 vp vt := ⟨h.hb.trans (hb.mono h.hb.size), row_below h.own1 hb, row_below h.own2 hb, h.apart, h.lo⟩
theorem Kp.push1 {u : World} (h : Kp u w l1 l2 vp vt) {x : T3} {v' : Value} (ho : w'.ownsRow 0 95 3 v' (l1 ++ [x]).length (cellsJ (l1 ++ [x]))) (hK : Keep (fun k => vp.ownBlock = some k) w w') (hv : ∀ k, v'.ownBlock = some k → vp.ownBlock = some k ∨ (w.heap.size ≤ k ∧ k < w'.heap.size)) :
    Kp u w' (l1 ++ [x]) l2 v' vt := by
  have hsz := h.hb.size
  refine ⟨h.hb.trans (hK.below (fun k hk => h.lo k (.inl hk)) hsz), ho, ownsRow_agree h.own2 fun k hk => hK.block k (h.own2.lt k hk).2 (fun e => h.apart k e hk), fun k hk hk2 => ?_, fun k hk => ?_⟩
  · have := (h.own2.lt k hk2).2
    rcases hv k hk with hk | hk
    · exact h.apart k hk hk2
    · omega
  · rcases hk with hk | hk
    · rcases hv k hk with hk | hk
      · exact h.lo k (.inl hk)
      · omega
    · exact h.lo k (.inr hk)
theorem Kp.push2 {u : World} (h : Kp u w l1 l2 vp vt) {x : ByteArray} {v' : Value} (ho : w'.ownsRow 0 9 1 v' (l2 ++ [x]).length (sts (l2 ++ [x]))) (hK : Keep (fun k => vt.ownBlock = some k) w w') (hv : ∀ k, v'.ownBlock = some k → vt.ownBlock = some k ∨ (w.heap.size ≤ k ∧ k < w'.heap.size)) :
    Kp u w' l1 (l2 ++ [x]) vp v' := by
  have hsz := h.hb.size
  refine ⟨h.hb.trans (hK.below (fun k hk => h.lo k (.inr hk)) hsz), ownsRow_agree h.own1 fun k hk => hK.block k (h.own1.lt k hk).2 (fun e => h.apart k hk e), ho, fun k hk hk2 => ?_, fun k hk => ?_⟩
  · have := (h.own1.lt k hk).2
    rcases hv k hk2 with hk2 | hk2
    · exact h.apart k hk hk2
    · omega
  · rcases hk with hk | hk
    · exact h.lo k (.inl hk)
    · rcases hv k hk with hk | hk
      · exact h.lo k (.inr hk)
      · omega
/-- Settle of some of them -/
theorem Th.settle {u : World} (h : Th w1 u p g lg ab c n z pn m s L l1 l2 vp vt) {L' : List (T3 × ByteArray)} {kv ov : Value} (hK : Kp u w (L'.map (·.1)) (L'.map (·.2)) kv ov) (hL : L'.Sublist L) (hp : pn * 32 ≤ 140737488355328) :
    ∃ A cp, kv = .slice A L'.length cp ∧ Calls Try.prog 42 #[.pointer (some ⟨lg, 0, none⟩), .slice A L'.length cp] w fun e w' => e = .returned (.int .i64 0) ∧ ∃ s' ab' c', Th w1 w' p g lg ab' c' n z pn m s' L' (L'.map (·.1)) (L'.map (·.2)) kv ov := by
  obtain ⟨S, W, h1, h2⟩ := h.sg
  have hlt := h1.lt
  have hsz := h1.hb.size
  have hsz2 := hK.hb.size
  have h3 := h1.below hK.hb
  obtain ⟨ac', hs, hpl⟩ := h.pl.settled hL
  obtain ⟨A, cp, e, q1, q2, q3⟩ := row_rdF hK.own1
  have hlen := hL.length_le
  have hcnt := h.cnt
  rw [List.length_map] at e q1
  refine ⟨A, cp, e, ?_⟩
  have hP : PsF w (fun k => kv.ownBlock = some k) (L'.map (·.1)) A cp := by
    refine ⟨by rw [List.length_map]; exact q1, by rw [List.length_map]; omega, q2, q3, fun x hx => ?_⟩
    obtain ⟨y, hy, rfl⟩ := List.mem_map.1 hx
    have hm := mayB_iff.1 (h.pl.may y (hL.subset hy))
    have hl := h.log.ok.len
    have hu := h.log.ok.used y.1.a.toNat (by omega)
    omega
  have cS := settle_ok h3.log (L'.map (·.1)) A cp _ (fun k hk => (hK.own1.lt k hk).2) hP
  rw [List.length_map] at cS
  refine cS.mono ?_
  rintro e2 w' (⟨hbad, _⟩ | ⟨ac2, ab', c', hs2, rfl, hl, hk, hab⟩)
  · rw [hs] at hbad; cases hbad
  · rw [hs] at hs2
    obtain rfl := Option.some.inj hs2
    have hac := (settled_at hs).1
    have hlg := h.log.lt.1
    refine ⟨rfl, _, ab', c', ⟨⟨S, W, h3.turn hl (hk.mono fun k hk _ => .inl hk) (.inr hab) hac, fun k hk2 hx => ?_⟩, h.inv.settled hs, h.size, h.segs, h.past, by omega, hpl, ?_, ?_, hK.apart, fun k hk2 => ?_⟩⟩
    · have h5 := hK.lo k hk2
      have h6 : k < w.heap.size := by
        rcases hk2 with h | h
        · exact (hK.own1.lt k h).2
        · exact (hK.own2.lt k h).2
      rcases hx with hx | hx | hx | hx
      · have := hlt k (.inl hx); omega
      · have := hlt k (.inr (.inl hx)); omega
      · have := hlt k (.inr (.inr (.inl hx))); omega
      · omega
    · exact ownsRow_agree hK.own1 fun k hk2 => hk.block k (hK.own1.lt k hk2).2 (fun e => by have := hK.lo k (.inl hk2); omega)
    · exact ownsRow_agree hK.own2 fun k hk2 => hk.block k (hK.own2.lt k hk2).2 (fun e => by have := hK.lo k (.inr hk2); omega)
    · have := hK.lo k hk2; omega
/-- what the rows hold -/
theorem Th.cells (h : Th w1 w p g lg ab c n z pn m s L (L.map (·.1)) (L.map (·.2)) vp vt) {t : Nat} (ht : t < L.length) :
    ∃ A1 q1 A2 q2 b1 o1 b2 o2, vp = .slice A1 L.length q1 ∧ vt = .slice A2 L.length q2 ∧ A1 = some ⟨b1, o1, none⟩ ∧ A2 = some ⟨b2, o2, none⟩ ∧ b1 < w.heap.size ∧ b2 < w.heap.size ∧
      w.cell? ⟨b1, o1 + t * 3, none⟩ = some (.int .i64 L[t].1.a) ∧ w.cell? ⟨b1, o1 + t * 3 + 1, none⟩ = some (.int .i64 L[t].1.b) ∧ w.cell? ⟨b1, o1 + t * 3 + 2, none⟩ = some (.int .i64 L[t].1.c) ∧ w.cell? ⟨b2, o2 + t, none⟩ = some (.string L[t].2) := by
  obtain ⟨A1, q1, e1, _, _, r1⟩ := row_rdF h.own1
  obtain ⟨A2, q2, e2, _, _, r2⟩ := row_rdF h.own2
  rw [List.length_map] at e1 e2
  have ht1 : t < (L.map (·.1)).length := by rw [List.length_map]; exact ht
  obtain ⟨c0, c1, c2⟩ := cellsJ_at (L.map (·.1)) ht1
  rw [List.getElem_map] at c0 c1 c2
  obtain ⟨b1, o1, ea, hb1, x0⟩ := r1 _ _ c0
  obtain ⟨b1', o1', ea', _, x1⟩ := r1 _ _ c1
  obtain ⟨b1'', o1'', ea'', _, x2⟩ := r1 _ _ c2
  rw [ea] at ea' ea''
  cases ea'
  cases ea''
  have s0 : (sts (L.map (·.2)))[t]? = some (.string L[t].2) := by simp [sts, List.getElem?_eq_getElem ht]
  obtain ⟨b2, o2, eb, hb2, y0⟩ := r2 _ _ s0
  exact ⟨A1, q1, A2, q2, b1, o1, b2, o2, e1, e2, ea, eb, World.block_lt_of_cell? w _ x0, World.block_lt_of_cell? w _ y0, x0, by rw [Nat.add_assoc]; exact x1, by rw [Nat.add_assoc]; exact x2, y0⟩
theorem Th.forms (h : Th w1 w p g lg ab c n z pn m s L (L.map (·.1)) (L.map (·.2)) vp vt) : ∃ A1 q1 A2 q2, vp = .slice A1 L.length q1 ∧ vt = .slice A2 L.length q2 := by
  obtain ⟨A1, q1, e1, _, _, r1⟩ := row_rdF h.own1
  obtain ⟨A2, q2, e2, _, _, r2⟩ := row_rdF h.own2
  rw [List.length_map] at e1 e2
  exact ⟨A1, q1, A2, q2, e1, e2⟩
/-- a place's reading -/
theorem Th.reads (h : Th w1 w p g lg ab c n z pn m s L l1 l2 vp vt) {x : T3 × ByteArray} (hx : x ∈ L) :
    (∀ wx, Below w.heap.size w wx → Calls Try.prog 45 #[.pointer (some ⟨g, 0, none⟩), .int .i64 x.1.a, .int .i64 x.1.b, .int .i64 x.1.c] wx fun e w' => e = .returned (.tuple #[.string x.2, .int .i64 0]) ∧ w' = wx) ∧
    ∃ kk : Int, kk ≠ 1 ∧ ∀ wx, Below w.heap.size w wx → Calls Try.prog 41 #[.pointer (some ⟨lg, 0, none⟩), .int .i64 x.1.a] wx fun e w' => e = .returned (.int .i64 kk) ∧ w' = wx := by
  obtain ⟨i, o, k, e1, e2, e3, e4, e5⟩ := h.pl.kind h.log.ok hx
  constructor
  · intro wx hb
    obtain ⟨S, W, h1, _⟩ := (h.below hb).sg
    obtain ⟨sb, vs, vpp, hm⟩ := h1.md
    have hiv := h.inv.2.2 i e2
    have hl := hm.len
    have hsl := h.inv.1
    rw [e1, e5]
    exact read_ok hm i (by omega) o k (by omega)
  · refine ⟨kindI s x.1.a, ?_, fun wx hb => kind_ok (h.below hb).log x.1.a⟩
    rw [e1]
    unfold kindI
    dsimp only
    rw [if_pos ⟨by omega, by omega⟩]
    exact e3
end
end Go.Proofs.Ythmamlghmagmkaa.segs
