/- SegmentBegins: what a log that is begun tells (pure); settlings. -/
import Derived.Test.YtblfacodfmbodaaSgN
import Derived.Test.YtblfacodfmbodaaSgR


namespace Go.Proofs.Ytblfacodfmbodaa.segs
set_option linter.unusedVariables false
set_option linter.unusedSimpArgs false
open Go.RowKit Go.Shelf Go.Proofs.Ytblfacodfmbodaa.base Go.Proofs.Ytblfacodfmbodaa.trees Go.Proofs.Ytblfacodfmbodaa.powers Go.Proofs.Ytblfacodfmbodaa.mediums Go.Lib

/-- places that may be in a may be in what b finds -/
theorem may_found {m : MS} {s : LS} (h : OkL s) (hi : InvM m s) {p : T3} (hp : mayB s.ac p = true) : mayB (foundP m s.o (at3 s.ac s.o).b) p = true := by
  have hm := mayB_iff.1 hp
  have hl := hi.1
  have ho := h.o
  rw [mayB_iff, foundP_len]
  refine ⟨by omega, hm.2.1, hm.2.2.1, ?_⟩
  rw [foundP_at m _ (by omega) (by omega)]
  have h1 := hi.2.2 p.a.toNat (by omega)
  split
  · rename_i e; rw [← e]; exact hm.2.2.2
  · unfold sealedT; dsimp only; omega
/-- a and b tell the same -/
structure Same (s1 s2 : LS) : Prop where
  o : s2.o = s1.o
  u : (at3 s2.ac s2.o).b = (at3 s1.ac s1.o).b
  len : s2.ac.length = s1.ac.length
  kind : ∀ i, i < s1.ac.length → (at3 s2.ac i).a = (at3 s1.ac i).a ∧ (at3 s2.ac i).c = (at3 s1.ac i).c
theorem begun_same {m : MS} {s : LS} {L : List (T3 × ByteArray)} (h : OkL s) (hi : InvM m s) (hp : PlP m s L) {ac' : List T3} (hs : settledP s.ac (L.map (·.1)) = some ac') (h' : OkL ⟨s.o, ac'⟩) (hp' : PlP m ⟨s.o, ac'⟩ L) :
    ∃ acB, settledP (foundP m s.o (at3 ac' s.o).b) (L.map (·.1)) = some acB ∧ Same ⟨s.o, ac'⟩ ⟨s.o, acB⟩ ∧ InvM m ⟨s.o, acB⟩ ∧ 0 ≤ (at3 ac' s.o).b ∧ (at3 ac' s.o).b ≤ ((m.at_ s.o).size : Int) := by
  have hi' : InvM m ⟨s.o, ac'⟩ := hi.settled hs
  obtain ⟨e, _, ha⟩ := settled_at hs
  have hlen := hi.1
  have ho := h.o
  have hu0 := h'.used s.o h'.o
  have hu1 := hi'.2.2 s.o h'.o
  change _ ≤ _ at hu1
  dsimp only at hu0 hu1
  have hall : (L.map (·.1)).all (mayB (foundP m s.o (at3 ac' s.o).b)) = true := by
    rw [List.all_eq_true]
    intro p hpp
    obtain ⟨x, hx, rfl⟩ := List.mem_map.1 hpp
    exact may_found h' hi' (hp'.may x hx)
  obtain ⟨acB, hB⟩ : ∃ acB, settledP (foundP m s.o (at3 ac' s.o).b) (L.map (·.1)) = some acB := ⟨_, by unfold settledP; exact if_pos ⟨hall, hp.disj⟩⟩
  obtain ⟨eB, _, hb⟩ := settled_at hB
  rw [foundP_len] at eB hb
  have hmay : ∀ p ∈ L.map (·.1), mayB s.ac p = true := fun p hpp => by
    obtain ⟨x, hx, rfl⟩ := List.mem_map.1 hpp
    exact hp.may x hx
  have h1 : ∀ p ∈ L.map (·.1), 1 ≤ p.c := fun p hpp => (mayB_iff.1 (hmay p hpp)).2.2.1
  have hat : ∀ i, i < s.ac.length → at3 acB i = freeT ⟨if i = s.o then 3 else 2, if i = s.o then (at3 ac' s.o).b else ((m.at_ i).size : Int), liveIn (L.map (·.1)) i⟩ := fun i hii => by
    rw [hb i (by omega), foundP_at m _ (by omega) (by omega)]
    split
    · rfl
    · rfl
  have hk3 : (at3 ac' s.o).a = 3 := (h'.kind s.o h'.o).2.2 rfl
  refine ⟨acB, hB, ⟨rfl, ?_, by show acB.length = ac'.length; omega, fun i hii => ?_⟩, ⟨by show acB.length = _; omega, hi.2.1, fun i hii => ?_⟩, hu0.1, hu1⟩
  · show (at3 acB s.o).b = (at3 ac' s.o).b
    rw [hat s.o ho, if_pos rfl, if_pos rfl, free_no (fun hf => by have := hf.1; simp at this)]
  · replace hii : i < ac'.length := hii
    rw [e] at hii
    show (at3 acB i).a = (at3 ac' i).a ∧ (at3 acB i).c = (at3 ac' i).c
    rw [hat i hii, ha i hii]
    have hk := h.kind i hii
    by_cases hio : i = s.o
    · rw [if_pos hio, if_pos hio, hk.2.2 hio, free_no (fun hf => by have := hf.1; simp at this), free_no (fun hf => by have := hf.1; simp at this)]
      exact ⟨rfl, rfl⟩
    · rw [if_neg hio, if_neg hio]
      have hne3 : (at3 s.ac i).a ≠ 3 := fun e3 => hio (hk.2.1 e3)
      rcases hk.1 with e1 | e1 | e1
      · have hz : liveIn (L.map (·.1)) i = 0 := (liveIn_pos h1).2 fun p hpp hpi => by
          have := (mayB_iff.1 (hmay p hpp)).2
          rw [hpi, (h.free i hii e1).1] at this
          omega
        rw [e1, hz, free_yes ⟨rfl, rfl⟩, free_no (fun hf => by have := hf.1; simp at this)]
        exact ⟨rfl, rfl⟩
      · rw [e1]
        by_cases hz : liveIn (L.map (·.1)) i = 0
        · rw [free_yes ⟨rfl, hz⟩, free_yes ⟨rfl, hz⟩]; exact ⟨rfl, rfl⟩
        · rw [free_no (fun hf => hz hf.2), free_no (fun hf => hz hf.2)]; exact ⟨rfl, rfl⟩
      · exact absurd e1 hne3
  · replace hii : i < acB.length := hii
    show (at3 acB i).b ≤ _
    rw [hat i (by omega)]
    by_cases hf : (if i = s.o then (3 : Int) else 2) = 2 ∧ liveIn (L.map (·.1)) i = 0
    · rw [free_yes hf]; exact Int.natCast_nonneg _
    · rw [free_no hf]
      dsimp only
      split
      · rename_i e2; rw [e2]; exact hu1
      · exact Int.le_refl _
theorem Same.those {s1 s2 : LS} (h : Same s1 s2) (k : Int) : those s2.ac k = those s1.ac k := same_kinds h.len fun i hi => by rw [(h.kind i hi).1]
theorem Same.kindI {s1 s2 : LS} (h : Same s1 s2) (i : Int) : kindI s2 i = kindI s1 i := by
  unfold segs.kindI
  rw [h.len]
  split
  · exact (h.kind _ (by omega)).1
  · rfl
theorem Same.liveI {s1 s2 : LS} (h : Same s1 s2) (i : Int) : liveI s2 i = liveI s1 i := by
  unfold segs.liveI
  rw [h.len]
  split
  · exact (h.kind _ (by omega)).2
  · rfl
section
variable {w1 w w' : World} {p g lg ab c n z pn : Nat} {m : MS} {s : LS} {L : List (T3 × ByteArray)} {l1 : List T3} {l2 : List ByteArray} {vp vt : Value}
/-- Settle of some of them; a row of places alone -/
theorem Th.settle1 {u : World} (h : Th w1 u p g lg ab c n z pn m s L l1 l2 vp vt) {L' : List (T3 × ByteArray)} {kv : Value} (hK : Kp u w (L'.map (·.1)) [] kv (.slice none 0 0)) (hL : L'.Sublist L) (hp : pn * 32 ≤ 140737488355328) :
    ∃ A cp, kv = .slice A L'.length cp ∧ Calls Try.prog 40 #[.pointer (some ⟨lg, 0, none⟩), .slice A L'.length cp] w fun e w' => e = .returned (.int .i64 0) ∧ ∃ s' ab' c', Th w1 w' p g lg ab' c' n z pn m s' L' (L'.map (·.1)) [] kv (.slice none 0 0) := by
  obtain ⟨S, W, h1, h2⟩ := h.sg
  have hlt := h1.lt
  have hsz := h1.hb.size
  have hsz2 := hK.hb.size
  have h3 := h1.below hK.hb
  obtain ⟨ac', hs, hpl⟩ := h.pl.settled hL
  obtain ⟨A, cp, e, q1, q2, q3⟩ := row_rdF hK.own1
  have hlen := hL.length_le
  have hcnt := h.cnt
  rw [List.length_map] at e q1
  refine ⟨A, cp, e, ?_⟩
  have hP : PsF w (fun k => kv.ownBlock = some k) (L'.map (·.1)) A cp := by
    refine ⟨by rw [List.length_map]; exact q1, by rw [List.length_map]; omega, q2, q3, fun x hx => ?_⟩
    obtain ⟨y, hy, rfl⟩ := List.mem_map.1 hx
    have hm := mayB_iff.1 (h.pl.may y (hL.subset hy))
    have hl := h.log.ok.len
    have hu := h.log.ok.used y.1.a.toNat (by omega)
    omega
  have cS := settle_ok h3.log (L'.map (·.1)) A cp _ (fun k hk => (hK.own1.lt k hk).2) hP
  rw [List.length_map] at cS
  refine cS.mono ?_
  rintro e2 w' (⟨hbad, _⟩ | ⟨ac2, ab', c', hs2, rfl, hl, hk, hab⟩)
  · rw [hs] at hbad; cases hbad
  · rw [hs] at hs2
    obtain rfl := Option.some.inj hs2
    have hac := (settled_at hs).1
    have hlg := h.log.lt.1
    refine ⟨rfl, _, ab', c', ⟨⟨S, W, h3.turn hl (hk.mono fun k hk _ => .inl hk) (.inr hab) hac, fun k hk2 hx => ?_⟩, h.inv.settled hs, h.size, h.segs, h.past, by omega, hpl, ?_, World.ownsRow_nil _ _ _ _, (fun k _ e => by cases e), fun k hk2 => ?_⟩⟩
    · have hk3 : kv.ownBlock = some k := by rcases hk2 with h | h; exact h; cases h
      have h5 := hK.lo k (.inl hk3)
      have h6 : k < w.heap.size := (hK.own1.lt k hk3).2
      rcases hx with hx | hx | hx | hx
      · have := hlt k (.inl hx); omega
      · have := hlt k (.inr (.inl hx)); omega
      · have := hlt k (.inr (.inr (.inl hx))); omega
      · omega
    · exact ownsRow_agree hK.own1 fun k hk2 => hk.block k (hK.own1.lt k hk2).2 (fun e => by have := hK.lo k (.inl hk2); omega)
    · have hk3 : kv.ownBlock = some k := by rcases hk2 with h | h; exact h; cases h
      have := hK.lo k (.inl hk3); omega
theorem Th.psF (h : Th w1 w p g lg ab c n z pn m s L (L.map (·.1)) l2 vp vt) (hp : pn * 32 ≤ 140737488355328) : ∃ A cp, vp = .slice A L.length cp ∧ PsF w (fun k => vp.ownBlock = some k) (L.map (·.1)) A cp := by
  obtain ⟨A, cp, e, q1, q2, q3⟩ := row_rdF h.own1
  have hcnt := h.cnt
  rw [List.length_map] at e q1
  refine ⟨A, cp, e, by rw [List.length_map]; exact q1, by rw [List.length_map]; omega, q2, q3, fun x hx => ?_⟩
  obtain ⟨y, hy, rfl⟩ := List.mem_map.1 hx
  have hm := mayB_iff.1 (h.pl.may y hy)
  have hl := h.log.ok.len
  have hu := h.log.ok.used y.1.a.toNat (by omega)
  omega
/-- Settle of all of them -/
theorem Th.settleAll (h : Th w1 w p g lg ab c n z pn m s L (L.map (·.1)) l2 vp vt) (hp : pn * 32 ≤ 140737488355328) :
    ∃ A cp, vp = .slice A L.length cp ∧ Calls Try.prog 40 #[.pointer (some ⟨lg, 0, none⟩), .slice A L.length cp] w fun e w' => e = .returned (.int .i64 0) ∧ ∃ ac' ab' c', settledP s.ac (L.map (·.1)) = some ac' ∧ Th w1 w' p g lg ab' c' n z pn m ⟨s.o, ac'⟩ L (L.map (·.1)) l2 vp vt := by
  obtain ⟨S, W, h1, h2⟩ := h.sg
  have hlt := h1.lt
  obtain ⟨ac', hs, hpl⟩ := h.pl.settled (List.Sublist.refl L)
  obtain ⟨A, cp, e, hP⟩ := h.psF hp
  refine ⟨A, cp, e, ?_⟩
  have cS := settle_ok h1.log (L.map (·.1)) A cp _ (fun k hk => (h.own1.lt k hk).2) hP
  rw [List.length_map] at cS
  refine cS.mono ?_
  rintro e2 w' (⟨hbad, _⟩ | ⟨ac2, ab', c', hs2, rfl, hl, hk, hab⟩)
  · rw [hs] at hbad; cases hbad
  · rw [hs] at hs2
    obtain rfl := Option.some.inj hs2
    have hac := (settled_at hs).1
    refine ⟨rfl, _, ab', c', hs, ⟨⟨S, W, h1.turn hl (hk.mono fun k hk _ => .inl hk) (.inr hab) hac, fun k hk2 hx => ?_⟩, h.inv.settled hs, h.size, h.segs, h.past, h.cnt, hpl, ?_, ?_, h.apart, h.lo⟩⟩
    · have h6 : k < w.heap.size := by
        rcases hk2 with h7 | h7
        · exact (h.own1.lt k h7).2
        · exact (h.own2.lt k h7).2
      rcases hx with hx | hx | hx | hx
      · exact h2 k hk2 (.inl hx)
      · exact h2 k hk2 (.inr (.inl hx))
      · exact h2 k hk2 (.inr (.inr (.inl hx)))
      · omega
    · exact ownsRow_agree h.own1 fun k hk2 => hk.block k (h.own1.lt k hk2).2 (fun e => h2 k (.inl hk2) (.inr (.inr (.inl e))))
    · exact ownsRow_agree h.own2 fun k hk2 => hk.block k (h.own2.lt k hk2).2 (fun e => h2 k (.inr hk2) (.inr (.inr (.inl e))))
end
end Go.Proofs.Ytblfacodfmbodaa.segs
