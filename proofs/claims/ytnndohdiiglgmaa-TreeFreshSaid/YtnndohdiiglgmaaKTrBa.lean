/- Trees that may be, in pure words; what Put makes of one. -/
import Derived.Test.YtnndohdiiglgmaaKTrAh
import Derived.Sort.Walk0


namespace Go.Proofs.Ytnndohdiiglgmaa.trees
set_option linter.unusedVariables false
set_option linter.unusedSimpArgs false
open Go.RowKit Go.Proofs.Ytnndohdiiglgmaa.base Go.Proofs.Ytnndohdiiglgmaa.vers Go.Proofs.Ytnndohdiiglgmaa.nodes Go.Proofs.Ytnndohdiiglgmaa.quotas

/-! ### secrets in order -/
abbrev nm (L : List PE) : List ByteArray := L.map (·.1)
theorem inc_app {a b : List ByteArray} : Inc (a ++ b) ↔ Inc a ∧ Inc b ∧ ∀ x ∈ a, ∀ y ∈ b, ltS x y = true := List.pairwise_append
theorem leB_iff {a b : ByteArray} : leB a b = true ↔ ltS b a = false := by
  unfold leB
  rw [bytesLess_eq, Lib.toList_data, Lib.toList_data]
  simp only [ltS, Bool.or_eq_true, decide_eq_true_eq, beq_iff_eq, decide_eq_false_iff_not]
  constructor
  · rintro (h | h)
    · exact fun k => List.lt_irrefl _ (List.lt_trans h k)
    · rw [h]; exact List.lt_irrefl _
  · intro h
    have h1 := List.not_lt.1 h
    rcases List.le_iff_lt_or_eq.1 h1 with h2 | h2
    · exact .inl h2
    · exact .inr h2
theorem lt_of_le_lt {a b c : ByteArray} (h : ltS b a = false) (k : ltS b c = true) : ltS a c = true := by
  cases h1 : ltS a b with
  | true => exact ltS_trans h1 k
  | false => rw [ltS_total h1 h]; exact k
theorem lt_of_lt_le {a b c : ByteArray} (h : ltS a b = true) (k : ltS c b = false) : ltS a c = true := by
  cases h1 : ltS b c with
  | true => exact ltS_trans h h1
  | false => rw [ltS_total k h1]; exact h
theorem lbP_mid {a m b : List ByteArray} {s : ByteArray} (ha : ∀ x ∈ a, ltS x s = true) (hb : ∀ x ∈ b, ltS x s = false) : lbP (a ++ m ++ b) s = a.length + lbP m s := by
  have e1 : a.countP (fun y => ltS y s) = a.length := List.countP_eq_length.2 (by simpa using ha)
  have e2 : b.countP (fun y => ltS y s) = 0 := List.countP_eq_zero.2 (by simpa using hb)
  show List.countP (fun y => ltS y s) (a ++ m ++ b) = a.length + List.countP (fun y => ltS y s) m
  rw [List.countP_append, List.countP_append, e1, e2]
  omega
/-- a secret goes into the part where its name belongs -/
theorem withP_mid {a m b : List PE} {x : PE} (ha : ∀ y ∈ nm a, ltS y x.1 = true) (hb : ∀ y ∈ nm b, ltS x.1 y = true) : withP (a ++ m ++ b) x = a ++ withP m x ++ b := by
  have hk := lbP_mid (m := nm m) ha (fun y hy => ltS_asymm (hb y hy))
  have hle := lbP_le (nm m) x.1
  rw [List.length_map] at hle
  unfold withP
  simp only [List.map_append] at hk ⊢
  rw [hk, List.length_map]
  generalize lbP (nm m) x.1 = k at hle ⊢
  have e0 : (nm a ++ nm m ++ nm b)[a.length + k]? = some x.1 ↔ (nm m)[k]? = some x.1 := by
    rw [List.append_assoc, List.getElem?_append_right (by rw [List.length_map]; omega), List.length_map, show a.length + k - a.length = k by omega]
    rcases Nat.lt_or_ge k m.length with h | h
    · rw [List.getElem?_append_left (by rw [List.length_map]; exact h)]
    · rw [List.getElem?_append_right (by rw [List.length_map]; exact h), List.length_map, List.getElem?_eq_none (l := nm m) (by rw [List.length_map]; exact h)]
      constructor
      · intro h1
        have h2 := hb x.1 (List.mem_of_getElem? h1)
        rw [ltS_irrefl] at h2
        cases h2
      · intro h1; cases h1
  have e1 : (a ++ m ++ b).take (a.length + k) = a ++ m.take k := by
    rw [List.append_assoc, List.take_append, List.take_of_length_le (by omega), show a.length + k - a.length = k by omega, List.take_append_of_le_length hle]
  rw [e1]
  by_cases h : (nm m)[k]? = some x.1
  · rw [if_pos h, if_pos (e0.2 h)]
    have hlt : k < m.length := by
      rcases Nat.lt_or_ge k m.length with h1 | h1
      · exact h1
      · rw [List.getElem?_eq_none (by rw [List.length_map]; exact h1)] at h; cases h
    have e2 : (a ++ m ++ b).drop (a.length + k + 1) = m.drop (k + 1) ++ b := by
      rw [List.append_assoc, List.drop_append, List.drop_eq_nil_of_le (by omega), List.nil_append, show a.length + k + 1 - a.length = k + 1 by omega, List.drop_append_of_le_length (by omega)]
    rw [e2]
    simp
  · rw [if_neg h, if_neg (fun h1 => h (e0.1 h1))]
    have e2 : (a ++ m ++ b).drop (a.length + k) = m.drop k ++ b := by
      rw [List.append_assoc, List.drop_append, List.drop_eq_nil_of_le (by omega), List.nil_append, show a.length + k - a.length = k by omega, List.drop_append_of_le_length hle]
    rw [e2]
    simp
/-- a list in order, cut where a name belongs -/
theorem inc_cut {L : List ByteArray} {s : ByteArray} (hI : Inc L) : (∀ y ∈ L.take (lbP L s), ltS y s = true) ∧ ∀ y ∈ L.drop (lbP L s), ltS y s = false := by
  induction L with
  | nil => simp
  | cons a l ih =>
    have hI' := List.pairwise_cons.1 hI
    cases ha : ltS a s with
    | true =>
      have e : lbP (a :: l) s = lbP l s + 1 := by unfold lbP; rw [List.countP_cons_of_pos (by simpa using ha)]
      rw [e]
      obtain ⟨h1, h2⟩ := ih hI'.2
      refine ⟨fun y hy => ?_, fun y hy => h2 y (by simpa using hy)⟩
      rw [List.take_succ_cons] at hy
      rcases List.mem_cons.1 hy with rfl | hy
      · exact ha
      · exact h1 y hy
    | false =>
      have e : lbP (a :: l) s = 0 := by
        unfold lbP
        rw [List.countP_eq_zero]
        intro y hy
        rcases List.mem_cons.1 hy with rfl | hy
        · simp [ha]
        · have := hI'.1 y hy
          have h3 : ltS y s = false := by
            cases h4 : ltS y s with
            | false => rfl
            | true => rw [ltS_trans this h4] at ha; cases ha
          simp [h3]
      rw [e]
      refine ⟨fun y hy => by simp at hy, fun y hy => ?_⟩
      rw [List.drop_zero] at hy
      rcases List.mem_cons.1 hy with rfl | hy
      · exact ha
      · have := hI'.1 y hy
        cases h4 : ltS y s with
        | false => rfl
        | true => rw [ltS_trans this h4] at ha; cases ha
/-- what was put in is there, in order, and nothing else is new -/
theorem withP_inc {L : List PE} {x : PE} (hI : Inc (nm L)) : Inc (nm (withP L x)) := by
  obtain ⟨h1, h2⟩ := inc_cut (s := x.1) hI
  have hle := lbP_le (nm L) x.1
  unfold withP
  generalize lbP (nm L) x.1 = k at *
  simp only [List.map_append, List.map_cons, List.map_take, List.map_drop]
  have hd : ∀ y ∈ (nm L).drop (if (nm L)[k]? = some x.1 then k + 1 else k), ltS x.1 y = true := fun y hy => by
    split at hy
    · rename_i he
      have hlt : k < (nm L).length := by
        rcases Nat.lt_or_ge k (nm L).length with h | h
        · exact h
        · rw [List.getElem?_eq_none h] at he; cases he
      have hI3 := hI
      rw [← List.take_append_drop k (nm L), List.drop_eq_getElem_cons hlt] at hI3
      have h4 := List.pairwise_cons.1 (inc_app.1 hI3).2.1
      rw [List.getElem?_eq_getElem hlt] at he
      injection he with he
      rw [← he]
      exact h4.1 y hy
    · rename_i he
      have h3 := h2 y hy
      cases h4 : ltS x.1 y with
      | true => rfl
      | false =>
        exfalso
        have e := ltS_total h4 h3
        subst e
        obtain ⟨j, hj, e⟩ := List.getElem_of_mem hy
        rw [List.getElem_drop] at e
        cases j with
        | zero => exact he (by rw [List.getElem?_eq_getElem (by rw [List.length_drop] at hj; omega), ← e]; simp)
        | succ j =>
          rw [List.length_drop] at hj
          have hlt : k < (nm L).length := by omega
          have hI3 := List.pairwise_iff_getElem.1 hI k (k + (j + 1)) hlt (by omega) (by omega)
          rw [e] at hI3
          have h5 := h2 (nm L)[k] (by rw [List.drop_eq_getElem_cons hlt]; exact List.mem_cons_self)
          rw [hI3] at h5
          cases h5
  refine inc_app.2 ⟨(hI.sublist (List.take_sublist _ _)), List.pairwise_cons.2 ⟨hd, hI.sublist (List.drop_sublist _ _)⟩, fun a ha b hb => ?_⟩
  rcases List.mem_cons.1 hb with rfl | hb
  · exact h1 a ha
  · exact ltS_trans (h1 a ha) (hd b hb)
theorem withP_len (L : List PE) (x : PE) : L.length ≤ (withP L x).length ∧ (withP L x).length ≤ L.length + 1 ∧ 0 < (withP L x).length := by
  have hle := lbP_le (nm L) x.1
  rw [List.length_map] at hle
  unfold withP
  generalize lbP (nm L) x.1 = k at *
  simp only [List.length_append, List.length_cons, List.length_take, List.length_drop]
  split
  · rename_i he
    have : k < L.length := by
      rcases Nat.lt_or_ge k L.length with h | h
      · exact h
      · rw [List.getElem?_eq_none (by rw [List.length_map]; exact h)] at he; cases he
    omega
  · omega
end Go.Proofs.Ytnndohdiiglgmaa.trees

/- Trees that may be, in pure words; what Put makes of one. -/

namespace Go.Proofs.Ytnndohdiiglgmaa.trees
set_option linter.unusedVariables false
set_option linter.unusedSimpArgs false
open Go.RowKit Go.Proofs.Ytnndohdiiglgmaa.base Go.Proofs.Ytnndohdiiglgmaa.vers Go.Proofs.Ytnndohdiiglgmaa.nodes Go.Proofs.Ytnndohdiiglgmaa.quotas

def lowL (L : List PE) : ByteArray := match L with | y :: _ => y.1 | [] => ⟨#[]⟩
theorem lowL_app {a : List PE} (b : List PE) (h : a ≠ []) : lowL (a ++ b) = lowL a := by
  cases a with
  | nil => exact absurd rfl h
  | cons x a => rfl
theorem lowL_mem {a : List PE} (h : a ≠ []) : lowL a ∈ nm a := by
  cases a with
  | nil => exact absurd rfl h
  | cons x a => exact List.mem_cons_self
theorem lowL_le {a : List PE} (hI : Inc (nm a)) : ∀ y ∈ nm a, ltS y (lowL a) = false := by
  cases a with
  | nil => intro y h; cases h
  | cons x a =>
    intro y h
    rcases List.mem_cons.1 h with rfl | h
    · exact ltS_irrefl _
    · exact ltS_asymm ((List.pairwise_cons.1 hI).1 y h)
/-- kids, each over its part of the secrets -/
def KidsOf (ns : List P3) (P : P3 → List PE → Prop) : List K → List PE → Prop
  | [], L => L = []
  | k :: ks, L => ∃ L1 L2 y, L = L1 ++ L2 ∧ pageAt ns k.r = some y ∧ P y L1 ∧ k.s = lowL L1 ∧ (2 ≤ partsP y ∧ partsP y ≤ 4) ∧ KidsOf ns P ks L2
/-- a page that stands over so many levels, and the secrets below it -/
def Tree (ns : List P3) : Nat → P3 → List PE → Prop
  | 0, x, L => x = (true, L, [])
  | h + 1, x, L => x.1 = false ∧ x.2.1 = [] ∧ x.2.2 ≠ [] ∧ KidsOf ns (Tree ns h) x.2.2 L
theorem KidsOf.mono {ns ns' : List P3} {P P' : P3 → List PE → Prop} (hn : ∀ r y, pageAt ns r = some y → pageAt ns' r = some y) (hP : ∀ y L, P y L → P' y L) : ∀ (ks : List K) (L : List PE), KidsOf ns P ks L → KidsOf ns' P' ks L
  | [], _, h => h
  | _ :: ks, _, ⟨L1, L2, y, e, h1, h2, h3, h4, h5⟩ => ⟨L1, L2, y, e, hn _ _ h1, hP _ _ h2, h3, h4, KidsOf.mono hn hP ks L2 h5⟩
theorem Tree.mono {ns ns' : List P3} (hn : ∀ r y, pageAt ns r = some y → pageAt ns' r = some y) : ∀ (h : Nat) (x : P3) (L : List PE), Tree ns h x L → Tree ns' h x L
  | 0, _, _, t => t
  | h + 1, _, _, ⟨a, b, c, d⟩ => ⟨a, b, c, KidsOf.mono hn (Tree.mono hn h) _ _ d⟩
theorem pageAt_app {ns : List P3} (m : List P3) (r : R) (y : P3) (h : pageAt ns r = some y) : pageAt (ns ++ m) r = some y := by
  unfold pageAt at h ⊢
  split at h
  · rename_i hc
    rw [if_pos hc]
    have : r.k - 1 < ns.length := (List.getElem?_eq_some_iff.1 h).1
    rw [List.getElem?_append_left this]
    exact h
  · cases h
theorem Tree.app {ns : List P3} (m : List P3) {h : Nat} {x : P3} {L : List PE} (t : Tree ns h x L) : Tree (ns ++ m) h x L := t.mono (pageAt_app m)
theorem KidsOf.app {ns : List P3} {P : P3 → List PE → Prop} : ∀ {a b : List K} {L1 L2 : List PE}, KidsOf ns P a L1 → KidsOf ns P b L2 → KidsOf ns P (a ++ b) (L1 ++ L2)
  | [], _, L1, _, h, k => by
    cases (show L1 = [] from h)
    exact k
  | _ :: a, b, _, L2, ⟨M1, M2, y, e, h1, h2, h3, h4, h5⟩, k => ⟨M1, M2 ++ L2, y, by rw [e, List.append_assoc], h1, h2, h3, h4, h5.app k⟩
theorem KidsOf.cut {ns : List P3} {P : P3 → List PE → Prop} : ∀ {a b : List K} {L : List PE}, KidsOf ns P (a ++ b) L → ∃ L1 L2, L = L1 ++ L2 ∧ KidsOf ns P a L1 ∧ KidsOf ns P b L2
  | [], _, L, h => ⟨[], L, rfl, rfl, h⟩
  | _ :: a, b, _, ⟨M1, M2, y, e, h1, h2, h3, h4, h5⟩ => by
    obtain ⟨L1, L2, e2, k1, k2⟩ := h5.cut
    exact ⟨M1 ++ L1, L2, by rw [e, e2, List.append_assoc], ⟨M1, L1, y, rfl, h1, h2, h3, h4, k1⟩, k2⟩
theorem KidsOf.len {ns : List P3} {P : P3 → List PE → Prop} {c : Nat} (hP : ∀ y L, P y L → 2 ≤ partsP y → c ≤ L.length) : ∀ (ks : List K) (L : List PE), KidsOf ns P ks L → ks.length * c ≤ L.length
  | [], _, _ => by simp
  | _ :: ks, _, ⟨M1, M2, y, e, h1, h2, h3, h4, h5⟩ => by
    have i1 := hP _ _ h2 h4.1
    have i2 := KidsOf.len hP ks M2 h5
    rw [e, List.length_append, List.length_cons, Nat.add_mul]
    omega
theorem Tree.len {ns : List P3} : ∀ (h : Nat) (x : P3) (L : List PE), Tree ns h x L → 2 ≤ partsP x → 2 ^ (h + 1) ≤ L.length
  | 0, x, L, t, hp => by
    cases (show x = (true, L, []) from t)
    simpa [partsP] using hp
  | h + 1, x, L, ⟨a, b, c, d⟩, hp => by
    have i1 := KidsOf.len (Tree.len (ns := ns) h) _ _ d
    have i2 : 2 ≤ x.2.2.length := by simpa [partsP, a] using hp
    have i3 : 2 * 2 ^ (h + 1) ≤ x.2.2.length * 2 ^ (h + 1) := Nat.mul_le_mul_right _ i2
    rw [Nat.pow_succ, Nat.mul_comm]
    omega
theorem Tree.ne {ns : List P3} {h : Nat} {x : P3} {L : List PE} (t : Tree ns h x L) (hp : 2 ≤ partsP x) : L ≠ [] := by
  intro e
  have := Tree.len h x L t hp
  have h2 : 0 < 2 ^ (h + 1) := Nat.pow_pos (by omega)
  rw [e] at this
  simp at this
theorem KidsOf.low {ns : List P3} {h : Nat} {k : K} {ks : List K} {L : List PE} (t : KidsOf ns (Tree ns h) (k :: ks) L) : k.s = lowL L ∧ L ≠ [] := by
  obtain ⟨M1, M2, y, e, h1, h2, h3, h4, h5⟩ := t
  have hne := h2.ne h4.1
  rw [e, lowL_app _ hne]
  refine ⟨h3, fun e0 => hne (List.append_eq_nil_iff.1 e0).1⟩
theorem Tree.low {ns : List P3} {h : Nat} {x : P3} {L : List PE} (t : Tree ns h x L) : lowP x = lowL L := by
  cases h with
  | zero =>
    cases (show x = (true, L, []) from t)
    cases L <;> rfl
  | succ h =>
    obtain ⟨a, b, c, d⟩ := t
    unfold lowP
    rw [if_neg (by simp [a])]
    cases e : x.2.2 with
    | nil => exact absurd e c
    | cons k ks =>
      rw [e] at d
      exact d.low.1

/-! ### where a name belongs -/
theorem belG_spec (ks : List K) (s : ByteArray) : ∀ n, (belG ks s n < n ∨ (n = 0 ∧ belG ks s n = 0)) ∧ (∀ j, belG ks s n < j → j < n → leB (ks[j]?.getD zK).s s = false) ∧ (0 < belG ks s n → leB (ks[belG ks s n]?.getD zK).s s = true)
  | 0 => ⟨.inr ⟨rfl, rfl⟩, fun j _ h => by omega, fun h => by simp [belG] at h⟩
  | n + 1 => by
    obtain ⟨h1, h2, h3⟩ := belG_spec ks s n
    cases hc : leB (ks[n]?.getD zK).s s with
    | true =>
      have e : belG ks s (n + 1) = n := by rw [belG, if_pos hc]
      rw [e]
      exact ⟨.inl (by omega), fun j _ h => by omega, fun _ => hc⟩
    | false =>
      have e : belG ks s (n + 1) = belG ks s n := by rw [belG, if_neg (by simp [hc])]
      rw [e]
      refine ⟨.inl (by omega), fun j hj hn => ?_, h3⟩
      rcases Nat.lt_or_ge j n with h | h
      · exact h2 j hj h
      · have : j = n := by omega
        rw [this]; exact hc
/-- the kid below which a name belongs, and the secrets ahead of it and behind it -/
theorem KidsOf.at_ {ns : List P3} {h : Nat} {ks : List K} {L : List PE} (s : ByteArray) (t : KidsOf ns (Tree ns h) ks L) (hne : ks ≠ []) (hI : Inc (nm L)) :
    belP ks s < ks.length ∧ ∃ k La Lk Lb y, ks[belP ks s]? = some k ∧ ks = ks.take (belP ks s) ++ k :: ks.drop (belP ks s + 1) ∧ L = La ++ Lk ++ Lb ∧ KidsOf ns (Tree ns h) (ks.take (belP ks s)) La ∧ KidsOf ns (Tree ns h) (ks.drop (belP ks s + 1)) Lb ∧ pageAt ns k.r = some y ∧ Tree ns h y Lk ∧ (2 ≤ partsP y ∧ partsP y ≤ 4) ∧
      (∀ z ∈ nm La, ltS z s = true) ∧ ∀ z ∈ nm Lb, ltS s z = true := by
  obtain ⟨h1, h2, h3⟩ := belG_spec ks s ks.length
  have hlt : belP ks s < ks.length := by
    rcases h1 with h1 | h1
    · exact h1
    · exact absurd (List.eq_nil_of_length_eq_zero h1.1) hne
  refine ⟨hlt, ?_⟩
  change ∀ j, belP ks s < j → j < ks.length → leB (ks[j]?.getD zK).s s = false at h2
  change 0 < belP ks s → leB (ks[belP ks s]?.getD zK).s s = true at h3
  generalize belP ks s = i at *
  have e : ks = ks.take i ++ ks[i] :: ks.drop (i + 1) := by rw [← List.drop_eq_getElem_cons hlt, List.take_append_drop]
  have t2 := t
  rw [e] at t2
  obtain ⟨La, L2, e1, ka, kb⟩ := t2.cut
  have hlowk := kb.low
  obtain ⟨Lk, Lb, y, e2, k1, k2, k3, k4, k5⟩ := kb
  have hne2 := k2.ne k4.1
  rw [e1, e2] at hI
  have hI1 := inc_app.1 (by simpa only [nm, List.map_append] using hI)
  have hI2 := inc_app.1 hI1.2.1
  refine ⟨ks[i], La, Lk, Lb, y, List.getElem?_eq_getElem hlt, e, by rw [e1, e2, List.append_assoc], ka, k5, k1, k2, k4, fun z hz => ?_, fun z hz => ?_⟩
  · have hi : 0 < i := by
      rcases Nat.eq_zero_or_pos i with h | h
      · subst h
        cases (show La = [] from ka)
        cases hz
      · exact h
    have h4 := h3 hi
    rw [List.getElem?_eq_getElem hlt] at h4
    have h5 : ltS s (lowL Lk) = false := by rw [← k3]; exact leB_iff.1 h4
    exact lt_of_lt_le (hI1.2.2 z hz (lowL Lk) (List.mem_append.2 (.inl (lowL_mem hne2)))) h5
  · cases e3 : ks.drop (i + 1) with
    | nil =>
      rw [e3] at k5
      cases (show Lb = [] from k5)
      cases hz
    | cons k' b =>
      rw [e3] at k5
      have h4 := k5.low
      have hlt2 : i + 1 < ks.length := by
        rcases Nat.lt_or_ge (i + 1) ks.length with h | h
        · exact h
        · rw [List.drop_eq_nil_of_le h] at e3; cases e3
      have h5 := h2 (i + 1) (by omega) hlt2
      have e4 : ks[i + 1]? = some k' := by rw [← List.head?_drop, e3]; rfl
      rw [e4] at h5
      have h6 : ltS s (lowL Lb) = true := by
        rw [← h4.1]
        cases h7 : ltS s k'.s with
        | true => rfl
        | false =>
          have h8 : leB k'.s s = true := leB_iff.2 h7
          rw [show (Option.getD (some k') zK) = k' from rfl, h8] at h5
          cases h5
      exact lt_of_lt_le h6 (lowL_le hI2.2.1 z hz)
end Go.Proofs.Ytnndohdiiglgmaa.trees

/- What Put makes of a tree that may be. -/

namespace Go.Proofs.Ytnndohdiiglgmaa.trees
set_option linter.unusedVariables false
set_option linter.unusedSimpArgs false
open Go.RowKit Go.Proofs.Ytnndohdiiglgmaa.base Go.Proofs.Ytnndohdiiglgmaa.vers Go.Proofs.Ytnndohdiiglgmaa.nodes Go.Proofs.Ytnndohdiiglgmaa.quotas

theorem kidP_r (x : P3) (low : ByteArray) (i : Nat) : (kidP x low i).r = refOf i := rfl
theorem pageAt_new (ns : List P3) (l : List P3) (j : Nat) (y : P3) (h : l[j]? = some y) : pageAt (ns ++ l) (refOf (ns.length + j)) = some y := by
  rw [pageAt_of, List.getElem?_append_right (by omega), show ns.length + j - ns.length = j by omega, h]
/-- what a node was made to, laid down: kids over the node's secrets -/
theorem split_ok {ns : List P3} {h : Nat} {y : P3} {L : List PE} (t : Tree ns h y L) (hp : 2 ≤ partsP y ∧ partsP y ≤ 5) :
    KidsOf (ns ++ splitP y) (Tree (ns ++ splitP y) h) (laidP ns.length (splitP y)) L ∧ 1 ≤ (splitP y).length ∧ (splitP y).length ≤ 2 := by
  unfold splitP
  by_cases h4 : partsP y ≤ 4
  · rw [if_pos h4]
    refine ⟨⟨L, [], y, by simp, ?_, t.app _, t.low, ⟨hp.1, h4⟩, rfl⟩, by simp, by simp⟩
    exact pageAt_new ns [y] 0 y rfl
  · rw [if_neg h4]
    have h5 : partsP y = 5 := by omega
    have two : ∀ (a b : P3) (La Lb : List PE), Tree ns h a La → Tree ns h b Lb → partsP a = 3 → partsP b = 2 → L = La ++ Lb → KidsOf (ns ++ [a, b]) (Tree (ns ++ [a, b]) h) (laidP ns.length [a, b]) L := fun a b La Lb ta tb pa pb e =>
      ⟨La, Lb, a, e, pageAt_new ns [a, b] 0 a rfl, ta.app _, ta.low, by omega, ⟨Lb, [], b, by simp, pageAt_new ns [a, b] 1 b rfl, tb.app _, tb.low, by omega, rfl⟩⟩
    unfold halvesP
    rw [h5]
    cases h with
    | zero =>
      cases (show y = (true, L, []) from t)
      have hl : L.length = 5 := h5
      refine ⟨two (true, L.take 3, []) (true, L.drop 3, []) (L.take 3) (L.drop 3) rfl rfl ?_ ?_ (List.take_append_drop 3 L).symm, by simp, by simp⟩
      · simp [partsP, hl]
      · simp [partsP, hl]
    | succ h =>
      obtain ⟨a, b, c, d⟩ := t
      have hl : y.2.2.length = 5 := by simpa [partsP, a] using h5
      rw [← List.take_append_drop 3 y.2.2] at d
      obtain ⟨La, Lb, e, da, db⟩ := d.cut
      simp only [a, Bool.false_eq_true, if_false]
      refine ⟨two (false, [], y.2.2.take 3) (false, [], y.2.2.drop 3) La Lb ⟨rfl, rfl, fun e => ?_, da⟩ ⟨rfl, rfl, fun e => ?_, db⟩ ?_ ?_ e, by simp, by simp⟩
      · have := congrArg List.length e; simp [hl] at this
      · have := congrArg List.length e; simp [hl] at this
      · simp [partsP, hl]
      · simp [partsP, hl]
theorem upQ_snoc (s : List P3 × P3) (l : List (P3 × Nat)) (x : P3 × Nat) : upQ s (l ++ [x]) = stepQ (upQ s l) x := by simp [upQ, List.foldl_append]
/-- down to the leaf, and up again -/
theorem put_up {ns : List P3} (e : PE) : ∀ (h : Nat) (x : P3) (L : List PE) (f d : Nat), Tree ns h x L → Inc (nm L) → partsP x ≤ 4 → h ≤ f → d + h ≤ 8 →
    ∃ way leaf, afterE ns e.1 f x d = .ok (way, leaf) ∧ way.length = h ∧ leaf.1 = true ∧ Inc (leaf.2.1.map (·.1)) ∧ (∀ p ∈ way, p.2 < p.1.2.2.length ∧ p.1.2.2.length ≤ 4) ∧ leaf.2.1.length ≤ 4 ∧
      ∃ m x', upQ (ns, (leaf.1, withP leaf.2.1 e, leaf.2.2)) way.reverse = (ns ++ m, x') ∧ Tree (ns ++ m) h x' (withP L e) ∧ partsP x ≤ partsP x' ∧ partsP x' ≤ partsP x + 1
  | 0, x, L, f, d, t, hI, hp, hf, hd => by
    cases (show x = (true, L, []) from t)
    have hl : L.length ≤ 4 := hp
    have h2 := withP_len L e
    refine ⟨[], (true, L, []), by rw [afterE, if_pos rfl], rfl, rfl, hI, (fun p hp => by cases hp), hl, [], (true, withP L e, []), by simp [upQ], rfl, ?_, ?_⟩
    · simp only [partsP, if_true]; exact h2.1
    · simp only [partsP, if_true]; exact h2.2.1
  | h + 1, x, L, f, d, t, hI, hp, hf, hd => by
    obtain ⟨a, b, c, t⟩ := t
    obtain ⟨f, rfl⟩ : ∃ f', f = f' + 1 := ⟨f - 1, by omega⟩
    obtain ⟨hlt, k, La, Lk, Lb, y, hk, ek, eL, ka, kb, hy, ty, hpy, hla, hlb⟩ := t.at_ e.1 c hI
    have hIk : Inc (nm Lk) := by
      rw [eL] at hI
      simp only [nm, List.map_append] at hI
      exact (inc_app.1 (inc_app.1 hI).1).2.1
    obtain ⟨way, leaf, h1, h2, h3, h4, h5, h6, m, y', h7, h8, h9, h10⟩ := put_up e h y Lk f (d + 1) ty hIk hpy.2 (by omega) (by omega)
    have hkr : (x.2.2[belP x.2.2 e.1]?.getD zK).r = k.r := by rw [hk]; rfl
    have hpl : partsP x = x.2.2.length := by simp [partsP, a]
    have hpage : pageE ns k.r (d + 1) = .ok y := by
      unfold pageE
      rw [if_neg (by omega), hy]
      refine if_neg fun hc => ?_
      have : partsP y = 0 := by simp [partsP, hc.1, hc.2]
      omega
    obtain ⟨s1, s2, s3⟩ := split_ok h8 ⟨by omega, by omega⟩
    have eq : upQ (ns, (leaf.1, withP leaf.2.1 e, leaf.2.2)) ((x, belP x.2.2 e.1) :: way).reverse = (ns ++ m ++ splitP y', (x.1, x.2.1, overK x.2.2 (belP x.2.2 e.1) 0 0 (laidP (ns ++ m).length (splitP y')))) := by
      rw [List.reverse_cons, upQ_snoc, h7]
      rfl
    refine ⟨(x, belP x.2.2 e.1) :: way, leaf, ?_, by simp [h2], h3, h4, ?_, h6, m ++ splitP y', (x.1, x.2.1, overK x.2.2 (belP x.2.2 e.1) 0 0 (laidP (ns ++ m).length (splitP y'))), ?_, ?_, ?_⟩
    · rw [afterE, if_neg (by simp [a]), hkr, downE_ok hpage, h1]
    · intro p hp'
      rcases List.mem_cons.1 hp' with rfl | hp'
      · exact ⟨hlt, show x.2.2.length ≤ 4 by omega⟩
      · exact h5 p hp'
    · rw [eq, List.append_assoc]
    · have e1 : withP L e = La ++ withP Lk e ++ Lb := by rw [eL]; exact withP_mid hla hlb
      have up1 : ∀ r z, pageAt ns r = some z → pageAt (ns ++ (m ++ splitP y')) r = some z := pageAt_app _
      rw [e1]
      have s1' : KidsOf (ns ++ (m ++ splitP y')) (Tree (ns ++ (m ++ splitP y')) h) (laidP (ns ++ m).length (splitP y')) (withP Lk e) := by rw [← List.append_assoc]; exact s1
      refine ⟨a, b, fun e0 => ?_, ?_⟩
      · have := congrArg List.length e0
        simp only [overK, List.length_append, laidP_len, List.length_nil] at this
        omega
      · have := ((ka.mono up1 (fun _ _ => Tree.mono up1 h _ _)).app s1').app (kb.mono up1 (fun _ _ => Tree.mono up1 h _ _))
        simpa only [overK, Nat.sub_zero, Nat.add_zero] using this
    · have e1 : partsP (x.1, x.2.1, overK x.2.2 (belP x.2.2 e.1) 0 0 (laidP (ns ++ m).length (splitP y'))) = x.2.2.length - 1 + (splitP y').length := by
        simp only [partsP, a, Bool.false_eq_true, if_false, overK, List.length_append, laidP_len, List.length_take, List.length_drop]
        omega
      rw [e1, hpl]
      omega
/-- a root: a page of the heap, a tree that may be -/
def Root (ns : List P3) (r : R) (h : Nat) (L : List PE) : Prop := ∃ x, pageAt ns r = some x ∧ Tree ns h x L ∧ partsP x ≤ 4 ∧ (0 < h → 2 ≤ partsP x)
theorem Root.app {ns : List P3} (m : List P3) {r : R} {h : Nat} {L : List PE} (t : Root ns r h L) : Root (ns ++ m) r h L := by
  obtain ⟨x, h1, h2, h3⟩ := t
  exact ⟨x, pageAt_app m _ _ h1, h2.app m, h3⟩
theorem Root.len {ns : List P3} {r : R} {h : Nat} {L : List PE} (t : Root ns r h L) : 0 < h → 2 ^ (h + 1) ≤ L.length := by
  obtain ⟨x, h1, h2, h3⟩ := t
  exact fun hp => h2.len _ _ _ (h3.2 hp)
theorem Root.empty (ns : List P3) : Root (ns ++ [(true, [], [])]) (refOf ns.length) 0 [] := ⟨_, pageAt_new ns [(true, [], [])] 0 _ rfl, rfl, by simp [partsP], fun h => by omega⟩
/-- what Put makes of a root -/
theorem put_root {ns : List P3} {r : R} {h : Nat} {L : List PE} (t : Root ns r h L) (e : PE) (hI : Inc (nm L)) (hh : h < 7) :
    ∃ way leaf m r' h', downE ns e.1 9 r 1 = .ok (way, leaf) ∧ way.length = h ∧ Inc (leaf.2.1.map (·.1)) ∧ (∀ p ∈ way, p.2 < p.1.2.2.length ∧ p.1.2.2.length ≤ 1000) ∧ leaf.2.1.length ≤ 1000 ∧
      putP ns way leaf e = (ns ++ m, r') ∧ Root (ns ++ m) r' h' (withP L e) ∧ (h ≤ h' ∧ h' ≤ h + 1) ∧ m.length ≤ 2 * h + 3 ∧ ∃ j, r' = refOf j ∧ j < (ns ++ m).length := by
  obtain ⟨x, hx, tx, hp, hp2⟩ := t
  have hpage : pageE ns r 1 = .ok x := by
    unfold pageE
    rw [if_neg (by omega), hx]
    refine if_neg fun hc => ?_
    cases h with
    | zero => cases (show x = (true, L, []) from tx); cases hc.1
    | succ h => exact tx.2.2.1 hc.2
  obtain ⟨way, leaf, h1, h2, h3, h4, h5, h6, m, x', h7, h8, h9, h10⟩ := put_up e h x L 8 1 tx hI hp (by omega) (by omega)
  have hd : downE ns e.1 9 r 1 = .ok (way, leaf) := by rw [downE_ok hpage, h1]
  have hq := upQ_len way.reverse (ns, (leaf.1, withP leaf.2.1 e, leaf.2.2))
  rw [h7, List.length_append, List.length_reverse, h2] at hq
  have hmle : m.length ≤ 2 * h := by simp only at hq; omega
  have hput : putP ns way leaf e = rootP (ns ++ m) (splitP x') := by unfold putP; rw [h7]
  have hway : ∀ p ∈ way, p.2 < p.1.2.2.length ∧ p.1.2.2.length ≤ 1000 := fun p hp => ⟨(h5 p hp).1, by have := (h5 p hp).2; omega⟩
  by_cases h4' : partsP x' ≤ 4
  · have es : splitP x' = [x'] := by unfold splitP; rw [if_pos h4']
    refine ⟨way, leaf, m ++ [x'], refOf (ns ++ m).length, h, hd, h2, h4, hway, by omega, ?_, ?_, ⟨Nat.le_refl _, by omega⟩, by simp only [List.length_append, List.length_singleton]; omega, (ns ++ m).length, rfl, by simp only [List.length_append, List.length_singleton]; omega⟩
    · rw [hput, es, rootP, if_pos (show [x'].length = 1 from rfl), List.append_assoc]
    · rw [← List.append_assoc]
      refine ⟨x', pageAt_new (ns ++ m) [x'] 0 x' rfl, h8.app _, h4', fun h0 => ?_⟩
      have := hp2 h0
      omega
  · have h5' : partsP x' = 5 := by omega
    obtain ⟨s1, s2, s3⟩ := split_ok h8 ⟨by omega, by omega⟩
    have es : (splitP x').length = 2 := by
      unfold splitP
      rw [if_neg h4']
      unfold halvesP
      split <;> rfl
    refine ⟨way, leaf, m ++ splitP x' ++ [(false, [], laidP (ns ++ m).length (splitP x'))], refOf ((ns ++ m).length + (splitP x').length), h + 1, hd, h2, h4, hway, by omega, ?_, ?_, ⟨by omega, Nat.le_refl _⟩, by simp only [List.length_append, List.length_singleton]; omega, (ns ++ m).length + (splitP x').length, rfl, by simp only [List.length_append, List.length_singleton]; omega⟩
    · rw [hput, rootP, if_neg (by omega)]
      simp only [List.append_assoc]
    · have e0 : ns ++ (m ++ splitP x' ++ [(false, [], laidP (ns ++ m).length (splitP x'))]) = (ns ++ m ++ splitP x') ++ [(false, [], laidP (ns ++ m).length (splitP x'))] := by simp only [List.append_assoc]
      rw [e0]
      refine ⟨(false, [], laidP (ns ++ m).length (splitP x')), ?_, ⟨rfl, rfl, fun e1 => ?_, ?_⟩, ?_, fun _ => ?_⟩
      · have := pageAt_new (ns ++ m ++ splitP x') [(false, [], laidP (ns ++ m).length (splitP x'))] 0 _ rfl
        rw [Nat.add_zero, List.length_append (bs := splitP x')] at this
        exact this
      · have := congrArg List.length e1
        rw [laidP_len, es] at this
        cases this
      · exact s1.mono (pageAt_app _) (fun _ _ => Tree.mono (pageAt_app _) h _ _)
      · simp [partsP, laidP_len, es]
      · simp [partsP, laidP_len, es]
end Go.Proofs.Ytnndohdiiglgmaa.trees
