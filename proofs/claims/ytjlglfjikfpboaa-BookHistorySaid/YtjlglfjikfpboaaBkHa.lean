/- Histories told, in pure words: what the law keeps of each secret, and what the book has of it. -/
import Derived.Test.YtjlglfjikfpboaaBkY


namespace Go.Proofs.Ytjlglfjikfpboaa.books
set_option linter.unusedVariables false
set_option linter.unusedSimpArgs false
open Go.RowKit Go.Proofs.Ytjlglfjikfpboaa.base Go.Proofs.Ytjlglfjikfpboaa.quotas Go.Proofs.Ytjlglfjikfpboaa.vers Go.Proofs.Ytjlglfjikfpboaa.nodes Go.Proofs.Ytjlglfjikfpboaa.trees Go.Proofs.Ytjlglfjikfpboaa.texts

structure TD where
  s : ByteArray
  l : List V
  n : Int
/-- what is told of a name, so far -/
def tdOf (T : List TD) (s : ByteArray) : TD := ((T.filter fun x => decide (x.s = s)).getLast?).getD ⟨s, [], 0⟩
def afterP (T : List TD) (o : O) : List TD :=
  if o.k = 3 then T.filter fun x => decide (x.s ≠ o.s)
  else (T.filter fun x => decide (x.s ≠ o.s)) ++ [⟨(tdOf T o.s).s, (if o.k = 2 then [] else (tdOf T o.s).l) ++ [⟨(tdOf T o.s).n + 1, o.v, o.t⟩], (tdOf T o.s).n + 1⟩]
def lastE (e : Int) (l : List V) : List V := l.drop ((l.length : Int) - e).toNat
structure Rel (q : Qt) (T : List TD) (L : List PB) : Prop where
  ne : T.Pairwise fun x y => x.s ≠ y.s
  told : ∀ x ∈ T, lk L x.s = some (lastE q.e x.l) ∧ x.l.getLast?.map (·.n) = some x.n
  all : ∀ y ∈ L, ∃ x ∈ T, x.s = y.1
theorem Rel.nil (q : Qt) : Rel q [] [] := ⟨List.Pairwise.nil, (fun x h => by cases h), (fun x h => by cases h)⟩
theorem Rel.len {q : Qt} {T : List TD} {L : List PB} (h : Rel q T L) (hu : Up L) : T.length = L.length := by
  have h1 : (T.map (·.s)).Nodup := List.pairwise_map.2 h.ne
  have h2 : (L.map (·.1)).Nodup := List.pairwise_map.2 (hu.imp fun {a b} hl e => by rw [e] at hl; exact bn_irrefl _ hl)
  have h3 := (List.perm_ext_iff_of_nodup h1 h2).2 fun s => by
    constructor
    · intro hs
      obtain ⟨x, hx, rfl⟩ := List.mem_map.1 hs
      exact List.mem_map.2 ⟨_, lk_some (h.told x hx).1, rfl⟩
    · intro hs
      obtain ⟨y, hy, rfl⟩ := List.mem_map.1 hs
      obtain ⟨x, hx, e⟩ := h.all y hy
      exact List.mem_map.2 ⟨x, hx, e⟩
  have := h3.length_eq
  rwa [List.length_map, List.length_map] at this
theorem tdOf_some {T : List TD} {s : ByteArray} (h : ∃ x ∈ T, x.s = s) : tdOf T s ∈ T ∧ (tdOf T s).s = s := by
  obtain ⟨x, hx, hs⟩ := h
  unfold tdOf
  cases hl : (T.filter fun x => decide (x.s = s)).getLast? with
  | none =>
    have := List.getLast?_eq_none_iff.1 hl
    have hm : x ∈ T.filter fun x => decide (x.s = s) := List.mem_filter.2 ⟨hx, by simpa using hs⟩
    rw [this] at hm
    cases hm
  | some z =>
    have hm := List.mem_filter.1 (List.mem_of_getLast? hl)
    exact ⟨hm.1, by simpa using hm.2⟩
theorem tdOf_none {T : List TD} {s : ByteArray} (h : ¬ ∃ x ∈ T, x.s = s) : tdOf T s = ⟨s, [], 0⟩ := by
  unfold tdOf
  have : (T.filter fun x => decide (x.s = s)) = [] := List.filter_eq_nil_iff.2 fun x hx => by
    simp only [decide_eq_true_eq]
    exact fun e => h ⟨x, hx, e⟩
  rw [this]
  rfl
theorem tdOf_name (T : List TD) (s : ByteArray) : (tdOf T s).s = s := by
  by_cases h : ∃ x ∈ T, x.s = s
  · exact (tdOf_some h).2
  · rw [tdOf_none h]
theorem lastE_last {e : Int} {l : List V} {n : Int} (he : 1 ≤ e) (h : l.getLast?.map (·.n) = some n) : noOf (lastE e l) = n + 1 := by
  have h1 : (lastE e l).getLast? = l.getLast? := by
    unfold lastE
    rw [List.getLast?_drop, if_neg]
    have : l ≠ [] := fun h0 => by rw [h0] at h; cases h
    have := List.length_pos_iff.2 this
    omega
  unfold noOf
  rw [h1]
  cases hl : l.getLast? with
  | none => rw [hl] at h; cases h
  | some x => rw [hl] at h; injection h with h; exact congrArg (· + 1) h
/-- what is told of a name, and what the book has of it -/
theorem Rel.at_ {q : Qt} (hk : q.ok) {T : List TD} {L : List PB} (h : Rel q T L) (s : ByteArray) : (lk L s).getD [] = lastE q.e (tdOf T s).l ∧ noOf ((lk L s).getD []) = (tdOf T s).n + 1 := by
  by_cases hx : ∃ x ∈ T, x.s = s
  · obtain ⟨h1, h2⟩ := tdOf_some hx
    obtain ⟨h3, h4⟩ := h.told _ h1
    rw [h2] at h3
    rw [h3]
    exact ⟨rfl, lastE_last hk.2.2.2.2.1.1 h4⟩
  · have hn : lk L s = none := by
      cases hl : lk L s with
      | none => rfl
      | some l => exact absurd (h.all _ (lk_some hl)) hx
    rw [hn, tdOf_none hx]
    exact ⟨by simp [lastE], rfl⟩
theorem Rel.one {q : Qt} (hk : q.ok) {T : List TD} {L : List PB} (hI : Inv q L) {o : O} (h0 : (oneP q L o).2 = 0) (h : Rel q T L) : Rel q (afterP T o) (oneP q L o).1 := by
  have he := oneP_eff h0
  have hu := (hI.one hk o).up
  have hold : ∀ x ∈ T.filter (fun x => decide (x.s ≠ o.s)), lk (oneP q L o).1 x.s = some (lastE q.e x.l) ∧ x.l.getLast?.map (·.n) = some x.n := fun x hx => by
    obtain ⟨h1, h2⟩ := List.mem_filter.1 hx
    have h3 : x.s ≠ o.s := by simpa using h2
    rw [he, if_neg h3]
    exact h.told x h1
  have hback : ∀ y ∈ (oneP q L o).1, y.1 ≠ o.s → ∃ x ∈ T.filter (fun x => decide (x.s ≠ o.s)), x.s = y.1 := fun y hy hne => by
    have h1 := lk_mem hu hy
    rw [he, if_neg hne] at h1
    obtain ⟨x, hx, e⟩ := h.all _ (lk_some h1)
    exact ⟨x, List.mem_filter.2 ⟨hx, by rw [e]; simpa using hne⟩, e⟩
  by_cases h3 : o.k = 3
  · have ea : afterP T o = T.filter fun x => decide (x.s ≠ o.s) := by unfold afterP; rw [if_pos h3]
    rw [ea]
    refine ⟨h.ne.sublist List.filter_sublist, hold, fun y hy => hback y hy fun e => ?_⟩
    have h1 := lk_mem hu hy
    rw [e, he, if_pos rfl] at h1
    unfold effP at h1
    rw [if_pos h3] at h1
    cases h1
  · obtain ⟨b0, l0⟩ := one_new h0 h3
    obtain ⟨r1, r2⟩ := h.at_ hk o.s
    have ea : afterP T o = (T.filter fun x => decide (x.s ≠ o.s)) ++ [⟨(tdOf T o.s).s, (if o.k = 2 then [] else (tdOf T o.s).l) ++ [⟨(tdOf T o.s).n + 1, o.v, o.t⟩], (tdOf T o.s).n + 1⟩] := by unfold afterP; rw [if_neg h3]
    rw [ea]
    have hq := hk.2.2.2.2.1.1
    have hnew : (newP q L o).k = lastE q.e ((if o.k = 2 then [] else (tdOf T o.s).l) ++ [⟨(tdOf T o.s).n + 1, o.v, o.t⟩]) := by
      unfold newP at b0 ⊢
      obtain ⟨k1, k2, k3⟩ := addP_k b0
      rw [k1, r2, r1]
      rw [r1] at k3
      unfold lastE at k3 ⊢
      by_cases h2 : o.k = 2
      · rw [if_pos h2, if_pos h2, List.drop_eq_nil_of_le (by omega)]
        simp only [List.nil_append, List.length_singleton]
        rw [show ((1 : Nat) : Int) - q.e = 1 - q.e by omega, show (1 - q.e).toNat = 0 by omega]
        rfl
      · rw [if_neg h2, if_neg h2, List.drop_drop, List.length_append, List.length_singleton, List.length_drop]
        rw [List.drop_append_of_le_length (by omega)]
        congr 2
        omega
    refine ⟨List.pairwise_append.2 ⟨h.ne.sublist List.filter_sublist, List.pairwise_singleton _ _, fun a ha b hb => ?_⟩, fun x hx => ?_, fun y hy => ?_⟩
    · rw [List.mem_singleton.1 hb]
      simp only [tdOf_name]
      simpa using (List.mem_filter.1 ha).2
    · rcases List.mem_append.1 hx with hx | hx
      · exact hold x hx
      · rw [List.mem_singleton.1 hx]
        simp only [tdOf_name]
        exact ⟨by rw [l0, hnew], by rw [List.getLast?_concat]; rfl⟩
    · by_cases e : y.1 = o.s
      · exact ⟨_, List.mem_append.2 (.inr (List.mem_singleton.2 rfl)), by rw [e]; exact tdOf_name T o.s⟩
      · obtain ⟨x, hx, e2⟩ := hback y hy e
        exact ⟨x, List.mem_append.2 (.inl hx), e2⟩
/-- behind a row of calls that is played -/
theorem Rel.row {q : Qt} (hk : q.ok) : ∀ (ops : List O) {T : List TD} {L : List PB} (i : Nat), Inv q L → Rel q T L → (rowP q L ops i).2.1 = 0 → Rel q (ops.foldl afterP T) (rowP q L ops i).1
  | [], T, L, i, _, h, _ => h
  | o :: r, T, L, i, hI, h, h0 => by
    rw [rowP] at h0 ⊢
    by_cases h1 : (oneP q L o).2 = 0
    · simp only [h1] at h0 ⊢
      exact Rel.row hk r _ (hI.one hk o) (h.one hk hI h1) h0
    · simp only [ne_eq, h1, not_false_eq_true, if_true] at h0
end Go.Proofs.Ytjlglfjikfpboaa.books
