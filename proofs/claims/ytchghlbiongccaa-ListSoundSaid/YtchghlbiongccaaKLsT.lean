/- A tree of secrets that may be is as it must be: Shape. -/
import Derived.Test.YtchghlbiongccaaKLsS
import Derived.Test.YtchghlbiongccaaKNd2
import Derived.Test.YtchghlbiongccaaKQuB


namespace Go.Proofs.Ytchghlbiongccaa.trees
set_option linter.unusedVariables false
set_option linter.unusedSimpArgs false
open Go.RowKit Go.Proofs.Ytchghlbiongccaa.base Go.Proofs.Ytchghlbiongccaa.vers Go.Proofs.Ytchghlbiongccaa.nodes Go.Proofs.Ytchghlbiongccaa.quotas

/-- a secret that may be -/
def OkS (a b c d e f q : Int) (y : PE) : Prop := rb (nbad a b c d e f q y.1 y.2) y.2 = 0
theorem okS_name {a b c d e f q : Int} {y : PE} (hq : ok a b c d e f q) (h : OkS a b c d e f q y) : y.1.size ≠ 0 ∧ ¬ b < (y.1.size : Int) := by
  unfold OkS rb nbad at h
  rw [if_pos hq] at h
  by_cases h1 : y.1.size = 0
  · rw [if_pos h1] at h
    split at h <;> omega
  · rw [if_neg h1] at h
    refine ⟨h1, fun h2 => ?_⟩
    rw [if_pos h2] at h
    split at h <;> omega
theorem sle_lt {x y : ByteArray} (h : ltS y x = true) : sle x y = false := by
  obtain ⟨h1, h2, h3, h4⟩ := clt h
  exact sle_no h2 h4
theorem ebad_zero {a b c d e f q : Int} : ∀ (es : List E) (p : Option ByteArray), (∀ x ∈ es, OkS a b c d e f q (pe x)) → Inc (es.map (·.s)) → (∀ z, p = some z → ∀ x ∈ es, ltS z x.s = true) → ebad a b c d e f q p es = 0
  | [], p, _, _, _ => by cases p <;> rfl
  | x :: es, p, h, hI, hp => by
    have h1 : rb (nbad a b c d e f q x.s x.l) x.l = 0 := h x List.mem_cons_self
    have h2 : behind x.s p = false := by
      cases p with
      | none => rfl
      | some z => exact sle_lt (hp z rfl x List.mem_cons_self)
    obtain ⟨hi1, hi2⟩ := List.pairwise_cons.1 hI
    have ih := ebad_zero es (some x.s) (fun y hy => h y (List.mem_cons_of_mem _ hy)) hi2 (fun z hz y hy => by cases hz; exact hi1 y.s (List.mem_map_of_mem hy))
    rw [ebad, if_neg (by simp [h1]), if_neg (by simp [h2]), ih]
theorem kbad_zero {b : Int} : ∀ (ks : List K) (p : Option ByteArray), (∀ k ∈ ks, k.s.size ≠ 0 ∧ ¬ b < (k.s.size : Int) ∧ refOk k.g k.o k.n) → Inc (ks.map (·.s)) → (∀ z, p = some z → ∀ k ∈ ks, ltS z k.s = true) → kbad b p ks = 0
  | [], p, _, _, _ => by cases p <;> rfl
  | x :: ks, p, h, hI, hp => by
    obtain ⟨h1, h3, h4⟩ := h x List.mem_cons_self
    have h2 : behind x.s p = false := by
      cases p with
      | none => rfl
      | some z => exact sle_lt (hp z rfl x List.mem_cons_self)
    obtain ⟨hi1, hi2⟩ := List.pairwise_cons.1 hI
    have ih := kbad_zero ks (some x.s) (fun y hy => h y (List.mem_cons_of_mem _ hy)) hi2 (fun z hz y hy => by cases hz; exact hi1 y.s (List.mem_map_of_mem hy))
    rw [kbad, if_neg h1, if_neg h3, if_neg (by simp [h4]), if_neg (by simp [h2]), ih]
/-- a page that may be, wherever it lies -/
def OkN (a b c d e f q : Int) (x : P3) : Prop :=
  (x.1 = true → x.2.2 = [] ∧ x.2.1.length ≤ 4 ∧ (∀ y ∈ x.2.1, OkS a b c d e f q y) ∧ Inc (nm x.2.1)) ∧
  (x.1 = false → x.2.1 = [] ∧ 2 ≤ x.2.2.length ∧ x.2.2.length ≤ 4 ∧ (∀ k ∈ x.2.2, k.s.size ≠ 0 ∧ ¬ b < (k.s.size : Int) ∧ refOk k.g k.o k.n) ∧ Inc (x.2.2.map (·.s)))
theorem OkN.zero {a b c d e f q : Int} (hq : ok a b c d e f q) {lf : Bool} {es : List E} {ks : List K} (h : OkN a b c d e f q (lf, es.map pe, ks)) : ndbad a b c d e f q lf es ks = 0 := by
  unfold ndbad
  rw [if_pos hq]
  cases lf with
  | true =>
    obtain ⟨h1, h2, h3, h4⟩ := h.1 rfl
    simp only [] at h1 h2 h3 h4
    subst h1
    rw [List.length_map] at h2
    rw [if_pos rfl, if_neg (by simp; omega)]
    refine ebad_zero es none (fun x hx => h3 _ (List.mem_map_of_mem hx)) ?_ (fun z hz => by cases hz)
    unfold nm at h4
    rwa [pe_map] at h4
  | false =>
    obtain ⟨h1, h2, h3, h4, h5⟩ := h.2 rfl
    simp only [] at h1 h2 h3 h4 h5
    have : es = [] := List.map_eq_nil_iff.1 h1
    subst this
    rw [if_neg (by decide), if_neg (by simp; omega)]
    exact kbad_zero ks none h4 h5 (fun z hz => by cases hz)
theorem lowL_le2 {L : List PE} (h : L ≠ []) : lowL L ∈ nm L := lowL_mem h
theorem kids_ok {ns : List P3} {h : Nat} {a b c d e f q : Int} (hq : ok a b c d e f q) (hns : ns.length ≤ 100000) : ∀ (ks : List K) (L : List PE), KidsOf ns (Tree ns h) ks L → Inc (nm L) → (∀ y ∈ L, OkS a b c d e f q y) → (∀ k ∈ ks, (k.s.size ≠ 0 ∧ ¬ b < (k.s.size : Int) ∧ refOk k.g k.o k.n) ∧ k.s ∈ nm L) ∧ Inc (ks.map (·.s))
  | [], L, t, hI, hL => ⟨(fun k hk => by cases hk), List.Pairwise.nil⟩
  | k :: ks, L, ⟨L1, L2, y, eL, h1, h2, h3, h4, h5⟩, hI, hL => by
    subst eL
    have hn1 := h2.ne h4.1
    have hI2 : Inc (nm L1 ++ nm L2) := by have := hI; unfold nm at this; rwa [List.map_append] at this
    obtain ⟨hi1, hi2, hi3⟩ := inc_app.1 hI2
    have ih := kids_ok hq hns ks L2 h5 hi2 (fun y hy => hL y (List.mem_append_right _ hy))
    have hkl := lowL_mem hn1
    rw [← h3] at hkl
    have hmem : ∀ s, s ∈ nm L1 ∨ s ∈ nm L2 → s ∈ nm (L1 ++ L2) := fun s hs => by unfold nm; rw [List.map_append]; exact List.mem_append.2 hs
    refine ⟨fun k' hk' => ?_, ?_⟩
    · rcases List.mem_cons.1 hk' with rfl | hk'
      · obtain ⟨z, hz, hzs⟩ := List.mem_map.1 hkl
        have hz2 := okS_name hq (hL z (List.mem_append_left _ hz))
        rw [hzs] at hz2
        refine ⟨⟨hz2.1, hz2.2, ?_⟩, hmem _ (.inl hkl)⟩
        unfold pageAt at h1
        split at h1
        · rename_i hc
          have hl := (List.getElem?_eq_some_iff.1 h1).1
          have e1 : k'.g = (refOf (k'.r.k - 1)).g := congrArg R.g hc.2
          have e2 : k'.o = (refOf (k'.r.k - 1)).o := congrArg R.o hc.2
          have e3 : k'.n = (refOf (k'.r.k - 1)).n := congrArg R.n hc.2
          obtain ⟨i, hi⟩ : ∃ i, i = k'.r.k - 1 := ⟨_, rfl⟩
          rw [← hi] at e1 e2 e3 hl
          unfold refOk
          rw [e1, e2, e3]
          simp only [refOf]
          omega
        · cases h1
      · exact ⟨(ih.1 k' hk').1, hmem _ (.inr (ih.1 k' hk').2)⟩
    · rw [List.map_cons]
      refine List.pairwise_cons.2 ⟨fun s hs => ?_, ih.2⟩
      obtain ⟨k', hk', rfl⟩ := List.mem_map.1 hs
      exact hi3 _ hkl _ (ih.1 k' hk').2
theorem seen_ok {ns : List P3} {a b c d e f q : Int} (hq : ok a b c d e f q) (hns : ns.length ≤ 100000) : ∀ (h : Nat) (r : R) (dp : Nat) (x : P3) (L : List PE), Tree ns h x L → partsP x ≤ 4 → (0 < h → 2 ≤ partsP x) → Inc (nm L) → (∀ y ∈ L, OkS a b c d e f q y) → ∀ s ∈ seenP ns h r dp x, OkN a b c d e f q s.2.2
  | 0, r, dp, x, L, t, hp, hp2, hI, hL, s, hs => by
    cases (show x = (true, L, []) from t)
    rw [seenP, List.mem_singleton] at hs
    subst hs
    exact ⟨fun _ => ⟨rfl, hp, hL, hI⟩, fun h => by cases h⟩
  | h + 1, r, dp, x, L, t, hp, hp2, hI, hL, s, hs => by
    rw [seenP_succ t, List.mem_cons] at hs
    have hko := kids_ok hq hns x.2.2 L t.2.2.2 hI hL
    have hpl : partsP x = x.2.2.length := by simp [partsP, t.1]
    rcases hs with rfl | hs
    · exact ⟨(fun h1 => by have := t.1; simp only [] at h1; rw [this] at h1; cases h1), fun _ => ⟨t.2.1, by rw [← hpl]; exact hp2 (by omega), by rw [← hpl]; exact hp, fun k hk => (hko.1 k hk).1, hko.2⟩⟩
    · obtain ⟨k, hk, hs⟩ := List.mem_flatMap.1 hs
      obtain ⟨y, L1, h1, h2, h3, h4⟩ := t.2.2.2.mem k hk
      simp only [h1] at hs
      obtain ⟨La, Lb, eL⟩ : ∃ La Lb, L = La ++ L1 ++ Lb ∨ True := ⟨[], [], .inr trivial⟩
      have hsub : ∀ (ks : List K) (L : List PE), KidsOf ns (Tree ns h) ks L → k ∈ ks → Inc (nm L) → (∀ y ∈ L, OkS a b c d e f q y) → ∃ y' L', pageAt ns k.r = some y' ∧ Tree ns h y' L' ∧ 2 ≤ partsP y' ∧ partsP y' ≤ 4 ∧ Inc (nm L') ∧ ∀ y ∈ L', OkS a b c d e f q y := by
        intro ks
        induction ks with
        | nil => intro L _ hk; cases hk
        | cons k0 ks ih =>
          rintro L ⟨M1, M2, y0, e0, g1, g2, g3, g4, g5⟩ hk hI hL
          subst e0
          have hI2 : Inc (nm M1 ++ nm M2) := by have := hI; unfold nm at this; rwa [List.map_append] at this
          obtain ⟨hi1, hi2, _⟩ := inc_app.1 hI2
          rcases List.mem_cons.1 hk with rfl | hk
          · exact ⟨y0, M1, g1, g2, g4.1, g4.2, hi1, fun y hy => hL y (List.mem_append_left _ hy)⟩
          · exact ih M2 g5 hk hi2 (fun y hy => hL y (List.mem_append_right _ hy))
      obtain ⟨y', L', e1, e2, e3, e4, e5, e6⟩ := hsub x.2.2 L t.2.2.2 hk hI hL
      rw [h1] at e1
      cases e1
      exact seen_ok hq hns h k.r (dp + 1) y L' e2 e4 (fun _ => e3) e5 e6 s hs
theorem lv_ge {a : Int} {n ht : Nat} (ha : 1 ≤ a ∧ a ≤ 64) (hn : (n : Int) ≤ a) (h4 : ht ≤ 4) (hl : 0 < ht → 2 ^ (ht + 1) ≤ n) : ((ht : Int) + 1) ≤ lv a := by
  have : ht = 0 ∨ ht = 1 ∨ ht = 2 ∨ ht = 3 ∨ ht = 4 := by omega
  unfold lv lg leaves
  rcases this with rfl | rfl | rfl | rfl | rfl
  all_goals (try have := hl (by omega))
  all_goals simp only [Nat.reducePow, Nat.reduceAdd] at *
  all_goals (repeat' split) <;> omega
theorem lp_ge {a : Int} {P n : Nat} (ha : 1 ≤ a ∧ a ≤ 64) (hn : (n : Int) ≤ a) (h : P = 1 ∨ ∃ m, P + 1 ≤ 2 * m ∧ 2 * m ≤ n) : (P : Int) ≤ lp a := by
  unfold lp leaves
  rcases h with rfl | ⟨m, h1, h2⟩
  · split <;> omega
  · split <;> omega
/-- what All answers of a tree of secrets that may be -/
structure LookAt (a b c d e f q : Int) (ht : Nat) (L : List PE) (pl : List SP) : Prop where
  sec : secretsP pl = L
  len : pl.length ≤ 100000
  one : 1 ≤ pl.length
  nodes : ∀ s ∈ pl, OkN a b c d e f q s.2.2
  good : Good pl
  deep : ∀ s ∈ pl, s.1 ≤ 1 + ht ∧ (s.2.2.1 = true → s.1 = 1 + ht ∧ (1 < s.1 → 2 ≤ s.2.2.2.1.length))
  max : ∃ s ∈ pl, s.1 = 1 + ht
  ref : ∀ s ∈ pl, s.2.1.n = 1
  few : (pl.length : Int) ≤ lp a
  low : ((ht : Int) + 1) ≤ lv a
theorem Shown.look {w : World} {h : Nat} {S : Nat → Prop} {ns : List P3} {r : R} {ht : Nat} {L : List PE} (s : Shown w h S ns r ht L) {a b c d e f q : Int} (hq : ok a b c d e f q) (hI : Inc (nm L)) (hL : ∀ y ∈ L, OkS a b c d e f q y) (hLa : (L.length : Int) ≤ a) (hns : ns.length ≤ 100000) (hr : ∃ i, r = refOf i) :
    ∃ pl : List SP, LookAt a b c d e f q ht L pl ∧ Calls Try.prog 55 #[pv h, r.val] w (APost w pl) := by
  obtain ⟨x, h1, h2, h3, h4⟩ := s.root
  have h5 := seenP_len ht r 1 x L h2 h3
  have h6 : 5 ^ ht ≤ 5 ^ 4 := Nat.pow_le_pow_right (by omega) s.low
  have h7 : (5 : Nat) ^ 4 = 625 := rfl
  obtain ⟨l0, hl0⟩ := seenP_head ns ht r 1 x
  refine ⟨_, ⟨secrets_tree ht r 1 x L h2, by omega, by rw [hl0]; simp, seen_ok hq hns ht r 1 x L h2 h3 h4 hI hL, by have := good_seen ht r 1 x L [] h2 trivial; rwa [List.append_nil] at this, fun z hz => ?_, ?_, fun z hz => ?_, lp_ge hq.1 hLa ?_, lv_ge hq.1 hLa s.low s.root.len⟩, allT_ok h S ns ht r x L w s.hp s.fits h1 h2 h3 (by have := s.low; omega)⟩
  · have := seen_leaf ht r 1 x L h2 (fun h => by omega) (by omega) z hz
    exact ⟨this.1, this.2.2⟩
  · obtain ⟨z, hz, he⟩ := seen_max ht r 1 x L h2
    exact ⟨z, hz, he⟩
  · obtain ⟨i, hi⟩ := seen_ref ht r 1 x L h2 hr z hz
    rw [hi]; rfl
  · cases ht with
    | zero => exact .inl rfl
    | succ h => exact .inr (pages_seen (h + 1) r 1 x L h2 (h4 (by omega)))

end Go.Proofs.Ytchghlbiongccaa.trees
