/- A log's accounts, pure: what may be, what overlaps, what is settled. -/
import Derived.Test.YtoenkkbcpafanaaSgO


namespace Go.Proofs.Ytoenkkbcpafanaa.segs
set_option linter.unusedVariables false
set_option linter.unusedSimpArgs false
open Go.RowKit Go.Proofs.Ytoenkkbcpafanaa.base

theorem snoc_ind {α : Type} {motive : List α → Prop} (nil : motive []) (snoc : ∀ l x, motive l → motive (l ++ [x])) (l : List α) : motive l := by
  have h : ∀ m : List α, motive m.reverse := fun m => by
    induction m with
    | nil => exact nil
    | cons x m ih => rw [List.reverse_cons]; exact snoc _ _ ih
  have := h l.reverse
  rwa [List.reverse_reverse] at this
deriving instance DecidableEq for T3
instance : Inhabited T3 := ⟨⟨0, 0, 0⟩⟩
abbrev zT : T3 := ⟨0, 0, 0⟩
/-- account i: what it is, how much is used, how much is live -/
def at3 (ac : List T3) (i : Nat) : T3 := ac[i]?.getD zT
theorem at3_eq {ac : List T3} {i : Nat} (h : i < ac.length) : at3 ac i = ac[i] := by unfold at3; rw [List.getElem?_eq_getElem h]; rfl
theorem at3_out {ac : List T3} {i : Nat} (h : ac.length ≤ i) : at3 ac i = zT := by unfold at3; rw [List.getElem?_eq_none h]; rfl
theorem at3_set {ac : List T3} {i : Nat} (x : T3) (h : i < ac.length) : at3 (ac.set i x) i = x := by unfold at3; rw [List.getElem?_set_self h]; rfl
theorem at3_ne {ac : List T3} {i j : Nat} (x : T3) (h : i ≠ j) : at3 (ac.set i x) j = at3 ac j := by unfold at3; rw [List.getElem?_set_ne h]
theorem at3_map {ac : List T3} {f : T3 → T3} {i : Nat} (h : i < ac.length) : at3 (ac.map f) i = f (at3 ac i) := by unfold at3; rw [List.getElem?_map, List.getElem?_eq_getElem h]; rfl
/-- the numbers of those of a kind, rising -/
def those (ac : List T3) (k : Int) : List Nat := (List.range ac.length).filter fun i => decide ((at3 ac i).a = k)
/-- .. up to j -/
def thoseTo (ac : List T3) (k : Int) (j : Nat) : List Nat := (List.range j).filter fun i => decide ((at3 ac i).a = k)
theorem thoseTo_all (ac : List T3) (k : Int) : thoseTo ac k ac.length = those ac k := rfl
theorem thoseTo_yes {ac : List T3} {k : Int} {j : Nat} (h : (at3 ac j).a = k) : thoseTo ac k (j + 1) = thoseTo ac k j ++ [j] := by
  unfold thoseTo; rw [List.range_succ, List.filter_append]; simp [h]
theorem thoseTo_no {ac : List T3} {k : Int} {j : Nat} (h : (at3 ac j).a ≠ k) : thoseTo ac k (j + 1) = thoseTo ac k j := by
  unfold thoseTo; rw [List.range_succ, List.filter_append]; simp [h]
theorem thoseTo_len (ac : List T3) (k : Int) (j : Nat) : (thoseTo ac k j).length ≤ j := by
  have := List.length_filter_le (fun i => decide ((at3 ac i).a = k)) (List.range j)
  rw [List.length_range] at this
  exact this
theorem mem_those {ac : List T3} {k : Int} {i : Nat} : i ∈ those ac k ↔ i < ac.length ∧ (at3 ac i).a = k := by
  unfold those; rw [List.mem_filter, List.mem_range]; simp
theorem thoseTo_congr {ac ac' : List T3} {k k' : Int} : ∀ {j : Nat}, (∀ i, i < j → ((at3 ac i).a = k ↔ (at3 ac' i).a = k')) → thoseTo ac k j = thoseTo ac' k' j
  | 0, _ => rfl
  | j + 1, h => by
    have ih := thoseTo_congr (j := j) fun i hi => h i (by omega)
    by_cases hj : (at3 ac j).a = k
    · rw [thoseTo_yes hj, thoseTo_yes ((h j (by omega)).1 hj), ih]
    · rw [thoseTo_no hj, thoseTo_no (fun e => hj ((h j (by omega)).2 e)), ih]
/-- the first of a kind -/
def first (ac : List T3) (k : Int) : Option Nat := ac.findIdx? fun x => decide (x.a = k)
theorem first_none {ac : List T3} {k : Int} : first ac k = none ↔ those ac k = [] := by
  unfold first
  rw [List.findIdx?_eq_none_iff, List.eq_nil_iff_forall_not_mem]
  constructor
  · intro h i hi
    obtain ⟨h1, h2⟩ := mem_those.1 hi
    rw [at3_eq h1] at h2
    have := h _ (List.getElem_mem h1)
    simp [h2] at this
  · intro h x hx
    obtain ⟨i, hi, rfl⟩ := List.getElem_of_mem hx
    have := h i
    rw [mem_those, at3_eq hi] at this
    simpa [hi] using this
theorem first_some {ac : List T3} {k : Int} {i : Nat} (h : first ac k = some i) : i < ac.length ∧ (at3 ac i).a = k ∧ ∀ j, j < i → (at3 ac j).a ≠ k := by
  unfold first at h
  rw [List.findIdx?_eq_some_iff_getElem] at h
  obtain ⟨h1, h2, h3⟩ := h
  refine ⟨h1, by rw [at3_eq h1]; simpa using h2, fun j hj => ?_⟩
  have := h3 j hj
  rw [at3_eq (by omega)]
  simpa using this
theorem thoseTo_none {ac : List T3} {k : Int} : ∀ {i : Nat}, (∀ j, j < i → (at3 ac j).a ≠ k) → thoseTo ac k i = []
  | 0, _ => rfl
  | i + 1, h => by rw [thoseTo_no (h i (by omega)), thoseTo_none fun j hj => h j (by omega)]
theorem those_head {ac : List T3} {k : Int} {i : Nat} (h : first ac k = some i) : ∃ r, those ac k = i :: r := by
  obtain ⟨h1, h2, h3⟩ := first_some h
  have e : ∀ m, i < m → ∃ r, thoseTo ac k m = i :: r := by
    intro m hm
    induction m with
    | zero => omega
    | succ m ih =>
      by_cases hmi : i = m
      · subst hmi
        rw [thoseTo_yes h2, thoseTo_none h3]
        exact ⟨[], rfl⟩
      · obtain ⟨r, hr⟩ := ih (by omega)
        by_cases hk : (at3 ac m).a = k
        · exact ⟨r ++ [m], by rw [thoseTo_yes hk, hr]; rfl⟩
        · exact ⟨r, by rw [thoseTo_no hk, hr]⟩
  exact e _ h1

/-! ### places -/
/-- two places that overlap nowhere -/
def Disj (p q : T3) : Prop := p.a ≠ q.a ∨ p.b + p.c ≤ q.b ∨ q.b + q.c ≤ p.b
instance (p q : T3) : Decidable (Disj p q) := inferInstanceAs (Decidable (_ ∨ _ ∨ _))
theorem Disj.symm {p q : T3} (h : Disj p q) : Disj q p := by
  rcases h with h | h | h
  · exact .inl fun e => h e.symm
  · exact .inr (.inr h)
  · exact .inr (.inl h)
/-- a place lies in what is used -/
def mayB (ac : List T3) (p : T3) : Bool := decide ((0 ≤ p.a ∧ p.a < (ac.length : Int)) ∧ 0 ≤ p.b ∧ 1 ≤ p.c ∧ p.c ≤ (at3 ac p.a.toNat).b - p.b)
theorem mayB_iff {ac : List T3} {p : T3} : mayB ac p = true ↔ ((0 ≤ p.a ∧ p.a < (ac.length : Int)) ∧ 0 ≤ p.b ∧ 1 ≤ p.c ∧ p.c ≤ (at3 ac p.a.toNat).b - p.b) := by unfold mayB; exact decide_eq_true_iff
/-- so many more bytes are live -/
def addL (ac : List T3) (p : T3) : List T3 := ac.set p.a.toNat ⟨(at3 ac p.a.toNat).a, (at3 ac p.a.toNat).b, (at3 ac p.a.toNat).c + p.c⟩
def noL (x : T3) : T3 := ⟨x.a, x.b, 0⟩
def sums (ac : List T3) (ps : List T3) : List T3 := ps.foldl addL (ac.map noL)
theorem sums_nil (ac : List T3) : sums ac [] = ac.map noL := rfl
theorem sums_snoc (ac : List T3) (ps : List T3) (p : T3) : sums ac (ps ++ [p]) = addL (sums ac ps) p := by simp [sums, List.foldl_append]
def freeT (x : T3) : T3 := if x.a = 2 ∧ x.c = 0 then ⟨1, 0, 0⟩ else x
def settledP (ac : List T3) (ps : List T3) : Option (List T3) := if ps.all (mayB ac) = true ∧ ps.Pairwise Disj then some ((sums ac ps).map freeT) else none
theorem addL_len (ac : List T3) (p : T3) : (addL ac p).length = ac.length := by simp [addL]
theorem sums_len (ac ps : List T3) : (sums ac ps).length = ac.length := by
  induction ps using snoc_ind with
  | nil => simp [sums]
  | snoc ps p ih => rw [sums_snoc, addL_len, ih]
theorem sums_ab (ac ps : List T3) (i : Nat) : (at3 (sums ac ps) i).a = (at3 ac i).a ∧ (at3 (sums ac ps) i).b = (at3 ac i).b := by
  induction ps using snoc_ind with
  | nil =>
    rw [sums_nil]
    rcases Nat.lt_or_ge i ac.length with h | h
    · rw [at3_map h]; exact ⟨rfl, rfl⟩
    · rw [at3_out h, at3_out (by simpa using h)]; exact ⟨rfl, rfl⟩
  | snoc ps p ih =>
    rw [sums_snoc]
    unfold addL
    rcases Nat.lt_or_ge p.a.toNat (sums ac ps).length with h | h
    · by_cases e : p.a.toNat = i
      · rw [← e, at3_set _ h]
        rw [← e] at ih
        exact ih
      · rw [at3_ne _ e]; exact ih
    · rw [List.set_eq_of_length_le h]; exact ih
/-- the live bytes of a segment -/
def liveIn (ps : List T3) (i : Nat) : Int := ((ps.filter fun p => decide (p.a.toNat = i)).map T3.c).sum
theorem liveIn_nil (i : Nat) : liveIn [] i = 0 := rfl
theorem liveIn_cons (p : T3) (ps : List T3) (i : Nat) : liveIn (p :: ps) i = (if p.a.toNat = i then p.c else 0) + liveIn ps i := by
  unfold liveIn
  by_cases h : p.a.toNat = i
  · rw [List.filter_cons_of_pos (by simpa using h), if_pos h]; rfl
  · rw [List.filter_cons_of_neg (by simpa using h), if_neg h]; omega
theorem liveIn_snoc (p : T3) (ps : List T3) (i : Nat) : liveIn (ps ++ [p]) i = liveIn ps i + (if p.a.toNat = i then p.c else 0) := by
  induction ps with
  | nil => rw [List.nil_append, liveIn_cons, liveIn_nil]; omega
  | cons q ps ih => rw [List.cons_append, liveIn_cons, liveIn_cons, ih]; omega
theorem sums_c (ac ps : List T3) (i : Nat) (hi : i < ac.length) : (at3 (sums ac ps) i).c = liveIn ps i := by
  induction ps using snoc_ind with
  | nil => rw [sums_nil, at3_map hi]; rfl
  | snoc ps p ih =>
    rw [sums_snoc, liveIn_snoc]
    unfold addL
    by_cases e : p.a.toNat = i
    · subst e
      rw [at3_set _ (by rw [sums_len]; exact hi), if_pos rfl]
      show _ + _ = _
      rw [ih]
    · rw [at3_ne _ e, if_neg e, ih]; omega
theorem liveIn_nonneg {ps : List T3} (h : ∀ p ∈ ps, 1 ≤ p.c) (i : Nat) : 0 ≤ liveIn ps i := by
  induction ps with
  | nil => exact Int.le_refl _
  | cons p ps ih =>
    have h1 := h p List.mem_cons_self
    have h2 := ih fun q hq => h q (List.mem_cons_of_mem _ hq)
    rw [liveIn_cons]
    split <;> omega
theorem liveIn_pos {ps : List T3} (h : ∀ p ∈ ps, 1 ≤ p.c) {i : Nat} : liveIn ps i = 0 ↔ ∀ p ∈ ps, p.a.toNat ≠ i := by
  induction ps with
  | nil => simp [liveIn_nil]
  | cons p ps ih =>
    have h1 := h p List.mem_cons_self
    have h2 := liveIn_nonneg (i := i) fun q hq => h q (List.mem_cons_of_mem _ hq)
    have ih := ih fun q hq => h q (List.mem_cons_of_mem _ hq)
    rw [liveIn_cons]
    by_cases e : p.a.toNat = i
    · rw [if_pos e]
      exact ⟨fun h => by omega, fun h => absurd e (h p List.mem_cons_self)⟩
    · rw [if_neg e, Int.zero_add, ih]
      exact ⟨fun h q hq => by rcases List.mem_cons.1 hq with rfl | hq; exact e; exact h q hq, fun h q hq => h q (List.mem_cons_of_mem _ hq)⟩
theorem liveIn_le {ps : List T3} {M : Int} (h : ∀ p ∈ ps, 0 ≤ p.c ∧ p.c ≤ M) (i : Nat) : liveIn ps i ≤ (ps.length : Int) * M := by
  induction ps with
  | nil => simp [liveIn_nil]
  | cons p ps ih =>
    have h1 := h p List.mem_cons_self
    have h2 := ih fun q hq => h q (List.mem_cons_of_mem _ hq)
    rw [liveIn_cons, List.length_cons]
    have : ((ps.length + 1 : Nat) : Int) * M = ps.length * M + M := by rw [Int.natCast_add, Int.add_mul]; omega
    rw [this]
    split <;> omega

/-! ### in order -/
/-- by segment, then by place -/
def cfT (x y : T3) : Int := if x.a < y.a then -1 else if y.a < x.a then 1 else if x.b < y.b then -1 else if y.b < x.b then 1 else 0
theorem cfT_lt {x y : T3} : cfT x y < 0 ↔ x.a < y.a ∨ x.a = y.a ∧ x.b < y.b := by unfold cfT; repeat' split <;> omega
/-- neighbours that overlap -/
def badN (d : List T3) (i : Nat) : Prop := (at3 d i).a = (at3 d (i + 1)).a ∧ (at3 d (i + 1)).b < (at3 d i).b + (at3 d i).c
instance (d : List T3) (i : Nat) : Decidable (badN d i) := inferInstanceAs (Decidable (_ ∧ _))
theorem sorted_disj {d : List T3} (hS : ∀ i j, i < j → j < d.length → ¬ (cfT (at3 d j) (at3 d i) < 0)) (hc : ∀ p ∈ d, 1 ≤ p.c) : d.Pairwise Disj ↔ ∀ i, i + 1 < d.length → ¬ badN d i := by
  constructor
  · intro h i hi hb
    have h1 := List.pairwise_iff_getElem.1 h i (i + 1) (by omega) hi (by omega)
    rw [← at3_eq (by omega), ← at3_eq hi] at h1
    have hs := hS i (i + 1) (by omega) hi
    rw [cfT_lt] at hs
    have hc1 := hc _ (List.getElem_mem hi)
    rw [← at3_eq hi] at hc1
    obtain ⟨b1, b2⟩ := hb
    rcases h1 with h1 | h1 | h1 <;> omega
  · intro h
    rw [List.pairwise_iff_getElem]
    intro i j hi hj hij
    rw [← at3_eq hi, ← at3_eq hj]
    by_cases e : (at3 d i).a = (at3 d j).a
    · refine .inr (.inl ?_)
      have n1 := h i (by omega)
      have s1 := hS i (i + 1) (by omega) (by omega)
      rw [cfT_lt] at s1
      by_cases e2 : i + 1 = j
      · rw [← e2] at e ⊢
        unfold badN at n1
        omega
      · have s2 := hS (i + 1) j (by omega) hj
        rw [cfT_lt] at s2
        unfold badN at n1
        omega
    · exact .inl e
end Go.Proofs.Ytoenkkbcpafanaa.segs
